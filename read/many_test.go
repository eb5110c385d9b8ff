package read_test

import (
	"reflect"
	"strconv"
	"strings"
	"testing"

	"ponder/api"
	"ponder/read"
	"ponder/shape"
	"ponder/show"
)

// maker makes texts of mixed parts, each with what it means.
type maker func(most int) int

// steps makes the same numbers below most each time.
func steps(seed uint64) maker {
	return func(most int) int {
		seed = seed*6364136223846793005 + 1442695040888963407
		return int(seed>>33) % most
	}
}

// one answers one of l.
func one[T any](m maker, l ...T) T { return l[m(len(l))] }

// said is a text, and what it means.
type said[T any] struct {
	text string
	is   T
}

// many makes least to most parts: the texts joined by a gap, and what they mean in a list.
func many[T any](m maker, least, most int, part func() said[T]) said[[]T] {
	var l said[[]T]
	for range least + m(most-least+1) {
		x := part()
		l.text += m.gap() + x.text
		l.is = append(l.is, x.is)
	}
	return l
}

// flat makes one list of lists.
func flat[T any](l said[[][]T]) said[[]T] {
	var whole []T
	for _, x := range l.is {
		whole = append(whole, x...)
	}
	return said[[]T]{l.text, whole}
}

func (m maker) gap() string { return one(m, " ", " ", " ", "\n", "\t", "\r\n", " # -->\n ", "#\n") }

func (m maker) name() string { return one(m, "s", "v", "state", "sp", "a-b", longest) }

func (m maker) variable() said[api.Atom] {
	name := m.name()
	return said[api.Atom]{"<" + name + ">", v(name)}
}

func (m maker) number() said[api.Sym] {
	n := one(m, 0, 7, -7, api.MaxInt, -api.MaxInt)
	return said[api.Sym]{strconv.Itoa(n), N(n)}
}

func (m maker) constant() said[api.Sym] {
	if m(2) == 0 {
		return m.number()
	}
	word := one(m, "x", "state", "sp", "s", "a--", longest)
	return said[api.Sym]{word, W(word)}
}

func (m maker) atom() said[api.Atom] {
	if m(2) == 0 {
		return m.variable()
	}
	x := m.constant()
	return said[api.Atom]{x.text, k(x.is)}
}

func (m maker) test() said[api.Test] {
	if m(4) == 0 {
		l := many(m, 1, api.MaxList, m.constant)
		return said[api.Test]{"<<" + l.text + m.gap() + ">>", in(l.is...)}
	}
	rel := one(m, api.Eq, api.Eq, api.Ne, api.Lt, api.Le, api.Gt, api.Ge, api.Same)
	signs := []string{api.Eq: "", api.Ne: "<>", api.Lt: "<", api.Le: "<=", api.Gt: ">", api.Ge: ">=", api.Same: "<=>"}
	a := m.atom()
	return said[api.Test]{signs[rel] + m.gap() + a.text, api.Test{Rel: rel, Var: a.is.Var, Sym: a.is.Sym}}
}

func (m maker) field() said[[]api.Test] {
	if m(2) == 0 {
		return many(m, 1, 1, m.test)
	}
	l := many(m, 1, api.MaxTests, m.test)
	return said[[]api.Test]{"{" + l.text + m.gap() + "}", l.is}
}

func (m maker) item() said[api.Cond] {
	attr := m.field()
	x := said[api.Cond]{"^" + m.gap() + attr.text, api.Cond{Kind: api.Pos, Attr: attr.is}}
	if m(2) == 0 {
		value := m.field()
		x.text += m.gap() + value.text
		x.is.Value = value.is
	}
	if m(3) == 0 {
		x.text += m.gap() + "+"
		x.is.Acc = true
	}
	if m(3) == 0 {
		x.text = "-" + m.gap() + x.text
		x.is.Kind = api.Neg
	}
	return x
}

func (m maker) clause() said[[]api.Cond] {
	id, l := m.variable(), many(m, 1, one(m, 1, 3), m.item)
	state := m(3) == 0
	for i := range l.is {
		l.is[i].Id, l.is[i].Goal = id.is.Var, state
	}
	if state {
		id.text = "state" + m.gap() + id.text
	}
	l.text = "(" + m.gap() + id.text + l.text + m.gap() + ")"
	return l
}

func (m maker) cond(depth int) said[[]api.Cond] {
	switch way := m(4); {
	case way == 0 && depth < api.MaxNest:
		l := m.conds(depth + 1)
		return said[[]api.Cond]{"-" + m.gap() + "{" + l.text + m.gap() + "}", []api.Cond{all(l.is...)}}
	case way == 1 && depth < api.MaxNest:
		l := m.clause()
		l.text = "-" + m.gap() + l.text
		if len(l.is) == 1 && l.is[0].Kind == api.Pos {
			l.is[0].Kind = api.Neg
			return l
		}
		l.is = []api.Cond{all(l.is...)}
		return l
	}
	return m.clause()
}

func (m maker) conds(depth int) said[[]api.Cond] {
	return flat(many(m, 1, 3, func() said[[]api.Cond] { return m.cond(depth) }))
}

func (m maker) operand() said[api.Atom] {
	if m(2) == 0 {
		return m.variable()
	}
	x := m.number()
	return said[api.Atom]{x.text, k(x.is)}
}

func (m maker) term() said[api.Term] {
	a := m.atom()
	if m(2) == 0 {
		return said[api.Term]{a.text, plain(a.is)}
	}
	op := one(m, api.Add, api.Sub, api.Mul)
	a, b := m.operand(), m.operand()
	text := "(" + m.gap() + []string{api.Add: "+", api.Sub: "-", api.Mul: "*"}[op] + m.gap() + a.text + m.gap() + b.text + m.gap() + ")"
	return said[api.Term]{text, api.Term{Op: op, A: a.is, B: b.is}}
}

func (m maker) actItem() said[api.Act] {
	attr, value, pref := m.atom(), m.term(), m(11)
	signs := []string{"", api.Accept: "+", api.Reject: "-", api.Require: "!", api.Prohibit: "~", api.Best: ">", api.Worst: "<", api.Indiff: "=", api.Better: ">", api.Worse: "<", api.Alike: "="}
	x := said[api.Act]{"^" + attr.text + m.gap() + value.text + m.gap() + signs[pref], api.Act{Attr: attr.is, Value: value.is, Pref: max(pref, api.Accept)}}
	if pref >= api.Better {
		other := m.atom()
		x.text += m.gap() + other.text
		x.is.Other = other.is
	}
	return x
}

func (m maker) act() said[[]api.Act] {
	id, l := m.variable(), many(m, 1, one(m, 1, 3), m.actItem)
	for i := range l.is {
		l.is[i].Id = id.is.Var
	}
	l.text = "(" + m.gap() + id.text + l.text + m.gap() + ")"
	return l
}

// prod makes a production that Shape accepts.
func (m maker) prod() said[api.Prod] {
	for {
		name, conds, acts := m.name(), m.conds(0), flat(many(m, 1, 3, m.act))
		p := prod(name, conds.is, acts.is...)
		if _, e := shape.Shape(p); e == api.OK {
			return said[api.Prod]{"sp" + m.gap() + "{" + m.gap() + name + conds.text + m.gap() + "-->" + acts.text + m.gap() + "}", p}
		}
	}
}

// text makes so many productions.
func (m maker) text(n int) said[[]api.Prod] {
	l := many(m, n, n, m.prod)
	l.text += m.gap()
	return l
}

// textOf answers the text of p, which must have one.
func textOf(t *testing.T, p api.Prod) string {
	t.Helper()
	text, e := show.Prod(p)
	if e != api.OK {
		t.Fatalf("Prod of %+v: %d", p, e)
	}
	return text
}

// A text is read as what it means, and so is the text of what was read.
func TestManyTexts(t *testing.T) {
	for seed := range uint64(4000) {
		m := steps(seed)
		l := m.text(m(4))
		expectRead(t, l.text, l.is...)
		shown := ""
		for _, p := range l.is {
			expectRead(t, textOf(t, p), p)
			shown += textOf(t, p)
		}
		expectRead(t, shown, l.is...)
	}
}

// What is read from a text that was shown is shown as that text.
func TestTextsStay(t *testing.T) {
	for seed := range uint64(1000) {
		text := textOf(t, steps(seed).prod().is)
		p, _, _ := read.One(text)
		expect(t, "text", textOf(t, p), text)
	}
}

// sized is a production of which the text has so many bytes, some 31,000 at least: the words of its last condition are as long as is needed.
func sized(t *testing.T, size int) api.Prod {
	field := func(word string) []api.Test {
		var l []api.Test
		for range api.MaxTests {
			l = append(l, in(copies(api.MaxList, W(word))...))
		}
		return l
	}
	filled := func(word string) api.Cond {
		return api.Cond{Kind: api.Pos, Id: "s", Attr: field(word), Value: field(word)}
	}
	p := prod("a", append(copies(14, filled(longest)), filled("w")), copies(api.MaxActs, accept())...)
	left := size - len(textOf(t, p))
	last := p.Conds[14]
	for _, x := range append(last.Attr, last.Value...) {
		for i := range x.List {
			more := min(left, api.MaxName-1)
			x.List[i] = W("w" + strings.Repeat("-", more))
			left -= more
		}
	}
	expect(t, "bytes of the text", len(textOf(t, p)), size)
	return p
}

// A text that is shown is read if it has at most MaxText bytes.
func TestLongestShownTexts(t *testing.T) {
	for size := api.MaxText - 2; size <= api.MaxText; size++ {
		p := sized(t, size)
		expectRead(t, textOf(t, p), p)
	}
	for size := api.MaxText + 1; size <= api.MaxText+2; size++ {
		expectError(t, textOf(t, sized(t, size)), 0, api.ErrMany)
	}
}

// Empty lists of a production that is shown are read as none.
func TestEmptyListsAreNone(t *testing.T) {
	p := full()
	text := textOf(t, p)
	p.Conds[0].Conds, p.Conds[0].Value[0].List, p.Conds[2].Value = []api.Cond{}, []api.Sym{}, tests()
	expect(t, "text", textOf(t, p), text)
	got, _, _ := read.One(text)
	expect(t, "production", reflect.DeepEqual(got, full()), true)
}
