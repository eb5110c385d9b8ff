package lex_test

import (
	"regexp"
	"slices"
	"strconv"
	"strings"
	"testing"

	"ponder/lex"
)

// The rules are told here by a pattern, of which the first way that fits counts: blanks and remarks, words, numbers, variables, signs, any other byte.
var rules = regexp.MustCompile(`^(?s:((?:[ \t\n\r]|#[^\n]*)*)(?:([a-z][a-z0-9_-]*)|(-?[0-9]+)|<([a-z][a-z0-9_-]*)>|(-->|<=>|<<|>>|<>|<=|>=|[(){}^+\-!~<>=*])|(.)|$))`)

var rightNumber = regexp.MustCompile(`^(?:0|-?[1-9][0-9]{0,9})$`)

// modelled answers the tokens of text by the pattern.
func modelled(text string) []lex.Token {
	var l []lex.Token
	at := 0
	for {
		m := rules.FindStringSubmatchIndex(text[at:])
		begin, end := at+m[3], at+m[1]
		x := lex.Token{Kind: lex.End, At: begin}
		for kind, group := range []int{lex.Word: 2, lex.Num: 3, lex.Var: 4, lex.Sign: 5, lex.Bad: 6} {
			if group > 0 && m[2*group] >= 0 {
				x.Kind, x.Text = kind, text[at+m[2*group]:at+m[2*group+1]]
			}
		}
		switch {
		case x.Kind == lex.Bad: // the pattern takes a letter of several bytes for one
			x.Text = text[begin : begin+1]
		case !right(x):
			x.Kind, x.Text = lex.Bad, text[begin:end]
		}
		l = append(l, x)
		if x.Kind == lex.End || x.Kind == lex.Bad {
			return l
		}
		at = end
	}
}

func right(x lex.Token) bool {
	switch x.Kind {
	case lex.Word, lex.Var:
		return len(x.Text) <= 32
	case lex.Num:
		n, _ := strconv.ParseInt(x.Text, 10, 64)
		return rightNumber.MatchString(x.Text) && n >= -2147483647 && n <= 2147483647
	}
	return true
}

// expectModel holds the tokens of text against the pattern's, and against P5.2.
func expectModel(t *testing.T, text string) {
	t.Helper()
	got := lex.All(text)
	if want := modelled(text); !slices.Equal(got, want) {
		t.Fatalf("tokens of %q: got %s, want %s", text, listed(got), listed(want))
	}
	expectGaps(t, text, got)
	expectJoined(t, text, got)
}

func listed(l []lex.Token) string { return written(slices.Values(l)) }

// source answers the bytes of a token.
func source(x lex.Token) string {
	if x.Kind == lex.Var {
		return "<" + x.Text + ">"
	}
	return x.Text
}

var gap = regexp.MustCompile(`^(?:[ \t\n\r]|#[^\n]*\n)*(?:#[^\n]*)?$`)

// expectGaps holds that the tokens stand in text as they are, and that there are only blanks and remarks between them.
func expectGaps(t *testing.T, text string, l []lex.Token) {
	t.Helper()
	behind := 0
	for _, x := range l {
		if x.At < behind || !strings.HasPrefix(text[x.At:], source(x)) {
			t.Fatalf("tokens of %q: %q does not stand at %d", text, x.Text, x.At)
		}
		if !gap.MatchString(text[behind:x.At]) {
			t.Fatalf("tokens of %q: %q stands in front of %q", text, text[behind:x.At], x.Text)
		}
		behind = x.At + len(source(x))
	}
	if last := l[len(l)-1]; last.Kind == lex.End && last.At != len(text) {
		t.Fatalf("tokens of %q: End stands at %d", text, last.At)
	}
}

// expectJoined holds that the tokens, joined by blanks, are divided into the same ones.
func expectJoined(t *testing.T, text string, l []lex.Token) {
	t.Helper()
	var parts []string
	var places []int
	behind := 0
	for _, x := range l {
		parts = append(parts, source(x))
		places = append(places, behind)
		behind += len(source(x)) + 1
	}
	again := lex.All(strings.Join(parts, " "))
	if len(again) != len(l) {
		t.Fatalf("tokens of %q: %s, and joined %s", text, listed(l), listed(again))
	}
	for i, x := range again {
		want := l[i]
		want.At = places[i]
		if x != want {
			t.Fatalf("tokens of %q: %s, and joined %s", text, listed(l), listed(again))
		}
	}
}

func TestAllShortTexts(t *testing.T) {
	few := strings.Split("az09-_<>=#(^ \n\rA\xff", "")
	texts := []string{""}
	for range 4 {
		var longer []string
		for _, text := range texts {
			expectModel(t, text)
			for _, c := range few {
				longer = append(longer, text+c)
			}
		}
		texts = longer
	}
	for _, text := range texts {
		expectModel(t, text)
	}
}

func TestAllPairsOfBytes(t *testing.T) {
	for a := range 256 {
		for b := range 256 {
			expectModel(t, string([]byte{byte(a), byte(b)}))
		}
	}
}

func TestAllSigns(t *testing.T) {
	texts := []string{""}
	for range 6 {
		var longer []string
		for _, text := range texts {
			for _, c := range []string{"-", "<", "=", ">", "a"} {
				longer = append(longer, text+c)
				expectModel(t, text+c)
			}
		}
		texts = longer
	}
}

// steps makes the same numbers below most each time.
func steps(seed uint64) func(most int) int {
	return func(most int) int {
		seed = seed*6364136223846793005 + 1442695040888963407
		return int(seed>>33) % most
	}
}

func TestManyTexts(t *testing.T) {
	pieces := []string{
		"a", "abc", "x-1", "y_", longest, longest[1:], longest + "x", "0", "7", "-1", "-0", "007", "2147483647", "2147483648", "-2147483647", "-2147483648", "99999999999999999999",
		"<s>", "<a-b>", "<" + longest + ">", "<" + longest + "x>", "<s", "s>", "<", ">", "-->", "<=>", "<<", ">>", "<>", "<=", ">=", "(", ")", "{", "}", "^", "+", "-", "!", "~", "=", "*",
		" ", " ", " ", " ", " ", " ", "\t", "\n", "\r", "\r\n", "# remark\n", "#\n", "#", "@", "S1", "\u00e4", "\xff", "\x00", ".",
	}
	for seed := range uint64(20000) {
		step := steps(seed)
		var text strings.Builder
		for range 1 + step(12) {
			text.WriteString(pieces[step(len(pieces))])
		}
		expectModel(t, text.String())
	}
}
