package read

import (
	"iter"
	"slices"
	"strings"

	"ponder/lex"
)

// reader goes through a text token by token, and looks no farther than at the next one.
type reader struct {
	text  string
	at    int       // where begins what was not looked at yet
	ahead lex.Token // the token that was looked at, but not taken; zero if there is none
	fault int       // where the first token stands that can not be there; nowhere if none was met
}

// newReader makes a reader at the beginning of text.
func newReader(text string) *reader {
	return &reader{text: text, fault: nowhere}
}

// next answers the next token. Behind a fault that is the zero token, with which nothing begins: what is being read ends there.
func (r *reader) next() lex.Token {
	if r.fault != nowhere {
		return lex.Token{}
	}
	if r.ahead == (lex.Token{}) {
		r.ahead = first(lex.Tokens(r.text[r.at:]))
		r.ahead.At += r.at
	}
	return r.ahead
}

// first answers the first token of l.
func first(l iter.Seq[lex.Token]) lex.Token {
	for t := range l {
		return t
	}
	return lex.Token{}
}

// take goes on behind the next token.
func (r *reader) take() {
	t := r.next()
	r.at, r.ahead = t.At+width(t), lex.Token{}
}

// width answers how many bytes of its text t is.
func width(t lex.Token) int {
	if t.Kind == lex.Var {
		return len("<") + len(t.Text) + len(">")
	}
	return len(t.Text)
}

// fail notes that the next token can not be there. Only the first fault counts.
func (r *reader) fail() {
	if r.fault == nowhere {
		r.fault = r.next().At
	}
}

// sees tells whether the next token is of one of these kinds.
func (r *reader) sees(kinds ...int) bool {
	return slices.Contains(kinds, r.next().Kind)
}

// seesSign tells whether the next token is one of these signs.
func (r *reader) seesSign(signs ...string) bool {
	return r.sees(lex.Sign) && slices.Contains(signs, r.next().Text)
}

// skip takes the next token if it is this sign, and tells whether it was.
func (r *reader) skip(sign string) bool {
	there := r.seesSign(sign)
	if there {
		r.take()
	}
	return there
}

// skipWord takes the next token if it is this word, and tells whether it was.
func (r *reader) skipWord(word string) bool {
	there := r.sees(lex.Word) && r.next().Text == word
	if there {
		r.take()
	}
	return there
}

// need takes this sign, which must be next.
func (r *reader) need(sign string) {
	if !r.skip(sign) {
		r.fail()
	}
}

// needWord takes this word, which must be next.
func (r *reader) needWord(word string) {
	if !r.skipWord(word) {
		r.fail()
	}
}

// name takes a token of this kind, which must be next, and answers its text. That is new memory: a production lasts longer than the text that it was read from.
func (r *reader) name(kind int) string {
	if !r.sees(kind) {
		r.fail()
		return ""
	}
	text := strings.Clone(r.next().Text)
	r.take()
	return text
}

// coded takes the next token if it is a sign that stands for a number, and answers the number; 0 if it is none.
func (r *reader) coded(number func(sign string) int) int {
	if !r.sees(lex.Sign) {
		return 0
	}
	n := number(r.next().Text)
	if n != 0 {
		r.take()
	}
	return n
}

// several reads one part, and more of them as long as the next token begins one.
func several[T any](part func() T, begins func() bool) []T {
	l := []T{part()}
	for begins() {
		l = append(l, part())
	}
	return l
}
