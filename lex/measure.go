package lex

import "strings"

// Sets of bytes.
const (
	blanks = " \t\n\r"
	small  = "abcdefghijklmnopqrstuvwxyz"
	digits = "0123456789"
	inner  = small + digits + "-_" // what may stand within a word
)

// signs are told longest first: the first one that fits is the longest one, too.
var signs = [...]string{"-->", "<=>", "<<", ">>", "<>", "<=", ">=", "(", ")", "{", "}", "^", "+", "-", "!", "~", "<", ">", "=", "*"}

// measure answers the kind of the token that rest, which is not empty, begins with, and how many bytes it has. Bounds are not asked here.
func measure(rest string) (kind, size int) {
	if n := wordSize(rest); n > 0 {
		return Word, n
	}
	if n := numSize(rest); n > 0 {
		return Num, n
	}
	if n := varSize(rest); n > 0 {
		return Var, n
	}
	if n := signSize(rest); n > 0 {
		return Sign, n
	}
	return Bad, 1
}

// wordSize answers how many bytes the word has that rest begins with; 0 if there is none.
func wordSize(rest string) int {
	if rest == "" || strings.IndexByte(small, rest[0]) < 0 {
		return 0
	}
	return span(rest, inner)
}

// numSize answers how many bytes the number has that rest begins with; 0 if there is none.
func numSize(rest string) int {
	unsigned := strings.TrimPrefix(rest, "-")
	n := span(unsigned, digits)
	if n == 0 {
		return 0
	}
	return len(rest) - len(unsigned) + n
}

// varSize answers how many bytes the variable has that rest begins with; 0 if there is none.
func varSize(rest string) int {
	name, opened := strings.CutPrefix(rest, "<")
	if !opened {
		return 0
	}
	n := wordSize(name)
	if n == 0 || !strings.HasPrefix(name[n:], ">") {
		return 0
	}
	return len("<") + n + len(">")
}

// signSize answers how many bytes the sign has that rest begins with; 0 if there is none.
func signSize(rest string) int {
	for _, s := range signs {
		if strings.HasPrefix(rest, s) {
			return len(s)
		}
	}
	return 0
}

// span answers how many bytes in front of text are of the set.
func span(text, set string) int {
	return len(text) - len(strings.TrimLeft(text, set))
}
