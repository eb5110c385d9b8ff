package show_test

import (
	"fmt"
	"strings"
	"testing"

	"ponder/api"
	"ponder/shape"
	"ponder/show"
)

func expect[T comparable](t *testing.T, what string, got, want T) {
	t.Helper()
	if got != want {
		t.Errorf("%s: got %v, want %v", what, got, want)
	}
}

// longest is a word that has as many bytes as a word may have.
var longest = "w" + strings.Repeat("-", api.MaxName-1)

// W is a word, N a number, I an identifier.
func W(text string) api.Sym { return api.Sym{Kind: api.Str, Text: text} }

func N(n int) api.Sym { return api.Sym{Kind: api.Int, N: n} }

func I(letter string, n int) api.Sym { return api.Sym{Kind: api.Id, Text: letter, N: n} }

// v is the atom of a variable, k that of a symbol.
func v(name string) api.Atom { return api.Atom{Var: name} }

func k(s api.Sym) api.Atom { return api.Atom{Sym: s} }

// is tests against a symbol, to against a variable, in against a list.
func is(rel int, s api.Sym) api.Test { return api.Test{Rel: rel, Sym: s} }

func to(rel int, name string) api.Test { return api.Test{Rel: rel, Var: name} }

func in(l ...api.Sym) api.Test { return api.Test{Rel: api.In, List: l} }

// tests is a field.
func tests(l ...api.Test) []api.Test { return l }

// pos is a condition about the attribute x.
func pos(id string, value ...api.Test) api.Cond {
	return api.Cond{Kind: api.Pos, Id: id, Attr: tests(is(api.Eq, W("x"))), Value: value}
}

func neg(c api.Cond) api.Cond {
	c.Kind = api.Neg
	return c
}

func goal(c api.Cond) api.Cond {
	c.Goal = true
	return c
}

func acc(c api.Cond) api.Cond {
	c.Acc = true
	return c
}

func about(c api.Cond, attr ...api.Test) api.Cond {
	c.Attr = attr
	return c
}

func all(l ...api.Cond) api.Cond { return api.Cond{Kind: api.All, Conds: l} }

// act prefers a value as attribute y.
func act(value api.Term, kind int, other api.Atom) api.Act {
	return api.Act{Id: "s", Attr: k(W("y")), Value: value, Pref: kind, Other: other}
}

func plain(a api.Atom) api.Term { return api.Term{A: a} }

// accept is the action of the document's example.
func accept() api.Act { return act(plain(v("s")), api.Accept, api.Atom{}) }

func prod(name string, conds []api.Cond, acts ...api.Act) api.Prod {
	return api.Prod{Name: name, Conds: conds, Acts: acts}
}

// example is the production of the document's example.
func example() api.Prod {
	return prod("a", []api.Cond{goal(pos("s", is(api.Eq, N(1))))}, accept())
}

// copies makes a list of n times the same.
func copies[T any](n int, x T) []T {
	var l []T
	for range n {
		l = append(l, x)
	}
	return l
}

// textOf answers the text of p, which must have one.
func textOf(t *testing.T, p api.Prod) string {
	t.Helper()
	text, e := show.Prod(p)
	if e != api.OK || text == "" {
		t.Fatalf("Prod of %+v: %q, %d", p, text, e)
	}
	return text
}

// expectCond holds the text of c by itself, and where it stands in a production, within another condition too.
func expectCond(t *testing.T, c api.Cond, want string) {
	t.Helper()
	expect(t, "Cond", show.Cond(c), want)
	p := example()
	p.Conds = append(p.Conds, c, all(c))
	expect(t, "Prod", textOf(t, p), "sp {a\n  (state <s> ^x 1)\n  "+want+"\n  -{"+want+"}\n-->\n  (<s> ^y <s> +)\n}\n")
}

// expectAct holds the text of a by itself, and where it stands in a production.
func expectAct(t *testing.T, a api.Act, want string) {
	t.Helper()
	expect(t, "Act", show.Act(a), want)
	p := example()
	p.Acts = []api.Act{a, accept(), a}
	expect(t, "Prod", textOf(t, p), "sp {a\n  (state <s> ^x 1)\n-->\n  "+want+"\n  (<s> ^y <s> +)\n  "+want+"\n}\n")
}

func TestExample(t *testing.T) {
	expect(t, "example", textOf(t, example()), "sp {a\n  (state <s> ^x 1)\n-->\n  (<s> ^y <s> +)\n}\n")
}

func TestWholeProduction(t *testing.T) {
	p := prod("b-1",
		[]api.Cond{
			acc(goal(pos("s", to(api.Eq, "o"), to(api.Ne, "s")))),
			neg(pos("o")),
			all(pos("o", to(api.Eq, "v")), all(neg(pos("v", in(N(-1), W("red")))))),
		},
		accept(),
		act(api.Term{Op: api.Sub, A: k(N(-3)), B: v("v")}, api.Better, k(W("red"))),
	)
	expect(t, "text", textOf(t, p), `sp {b-1
  (state <s> ^x { <o> <> <s> } +)
  -(<o> ^x)
  -{(<o> ^x <v>) -{-(<v> ^x << -1 red >>)}}
-->
  (<s> ^y <s> +)
  (<s> ^y (- -3 <v>) > red)
}
`)
}

func TestTests(t *testing.T) {
	for rel, sign := range []string{api.Eq: "", api.Ne: "<> ", api.Lt: "< ", api.Le: "<= ", api.Gt: "> ", api.Ge: ">= ", api.Same: "<=> "} {
		if rel == 0 {
			continue
		}
		for text, x := range map[string]api.Test{"<v>": to(rel, "v"), "red": is(rel, W("red")), "-5": is(rel, N(-5)), "0": is(rel, N(0)), "<" + longest + ">": to(rel, longest)} {
			expectCond(t, pos("s", x), "(<s> ^x "+sign+text+")")
			expectCond(t, about(pos("s"), x), "(<s> ^"+sign+text+")")
		}
	}
	expectCond(t, pos("s", in(W("a"))), "(<s> ^x << a >>)")
	expectCond(t, pos("s", in(W("b"), W("a"), N(2), W("b"))), "(<s> ^x << b a 2 b >>)")
	expectCond(t, pos("s", in(copies(api.MaxList, N(-api.MaxInt))...)), "(<s> ^x <<"+strings.Repeat(" -2147483647", api.MaxList)+" >>)")
	expectCond(t, about(pos("s", is(api.Eq, N(3))), in(W("a"), N(1))), "(<s> ^<< a 1 >> 3)")
}

func TestFields(t *testing.T) {
	a, b, c := to(api.Eq, "a"), is(api.Ge, N(0)), in(W("c"), N(4))
	expectCond(t, pos("s"), "(<s> ^x)")
	expectCond(t, pos("s", a), "(<s> ^x <a>)")
	expectCond(t, pos("s", a, b), "(<s> ^x { <a> >= 0 })")
	expectCond(t, pos("s", b, a), "(<s> ^x { >= 0 <a> })")
	expectCond(t, pos("s", a, a), "(<s> ^x { <a> <a> })")
	expectCond(t, pos("s", c, a, b, c), "(<s> ^x { << c 4 >> <a> >= 0 << c 4 >> })")
	expectCond(t, about(pos("s"), a, c), "(<s> ^{ <a> << c 4 >> })")
	expectCond(t, about(pos("s", b), b, a, c, a), "(<s> ^{ >= 0 <a> << c 4 >> <a> } >= 0)")
	expectCond(t, about(pos("s", a, b), b, c), "(<s> ^{ >= 0 << c 4 >> } { <a> >= 0 })")
}

func TestConditions(t *testing.T) {
	c := pos("v", is(api.Eq, W("red")))
	for _, x := range []struct {
		cond api.Cond
		want string
	}{
		{c, "(<v> ^x red)"},
		{goal(c), "(state <v> ^x red)"},
		{acc(c), "(<v> ^x red +)"},
		{goal(acc(c)), "(state <v> ^x red +)"},
		{pos("v"), "(<v> ^x)"},
		{goal(pos("v")), "(state <v> ^x)"},
		{acc(pos("v")), "(<v> ^x +)"},
		{goal(acc(pos("v"))), "(state <v> ^x +)"},
		{pos("state"), "(<state> ^x)"},
		{pos(longest), "(<" + longest + "> ^x)"},
	} {
		expectCond(t, x.cond, x.want)
		expectCond(t, neg(x.cond), "-"+x.want)
	}
}

func TestAlls(t *testing.T) {
	a, b := pos("a"), neg(acc(pos("b")))
	for want, c := range map[string]api.Cond{
		"-{(<a> ^x)}":                           all(a),
		"-{-(<b> ^x +)}":                        all(b),
		"-{(<a> ^x) -(<b> ^x +) (<a> ^x)}":      all(a, b, a),
		"-{-{(<a> ^x)}}":                        all(all(a)),
		"-{-{(<a> ^x)} -{-(<b> ^x +)}}":         all(all(a), all(b)),
		"-{-(<b> ^x +) -{(<a> ^x) (<a> ^x)}}":   all(b, all(a, a)),
		"-{-{-(<b> ^x +) (<a> ^x)} (<a> ^x)}":   all(all(b, a), a),
		"-{(state <a> ^x) -{(state <a> ^x +)}}": all(goal(a), all(goal(acc(a)))),
	} {
		expectCond(t, c, want)
	}
	deepest := all(all(all(b), a))
	expect(t, "the deepest", show.Cond(deepest), "-{-{-{-(<b> ^x +)} (<a> ^x)}}")
	expect(t, "the deepest", strings.Split(textOf(t, prod("a", []api.Cond{deepest}, accept())), "\n")[1], "  -{-{-{-(<b> ^x +)} (<a> ^x)}}")
}

func TestTerms(t *testing.T) {
	for want, x := range map[string]api.Term{
		"<v>":           plain(v("v")),
		"red":           plain(k(W("red"))),
		"0":             plain(k(N(0))),
		"-7":            plain(k(N(-7))),
		"(+ <a> <b>)":   {Op: api.Add, A: v("a"), B: v("b")},
		"(- <a> -1)":    {Op: api.Sub, A: v("a"), B: k(N(-1))},
		"(- -1 <a>)":    {Op: api.Sub, A: k(N(-1)), B: v("a")},
		"(* 2 3)":       {Op: api.Mul, A: k(N(2)), B: k(N(3))},
		"(+ 0 <a>)":     {Op: api.Add, A: k(N(0)), B: v("a")},
		"(* <a> <red>)": {Op: api.Mul, A: v("a"), B: v("red")},
	} {
		expectAct(t, act(x, api.Accept, api.Atom{}), "(<s> ^y "+want+" +)")
		expectAct(t, act(x, api.Alike, v("z")), "(<s> ^y "+want+" = <z>)")
	}
}

func TestPreferences(t *testing.T) {
	for kind, sign := range []string{api.Accept: "+", api.Reject: "-", api.Require: "!", api.Prohibit: "~", api.Best: ">", api.Worst: "<", api.Indiff: "="} {
		if kind > 0 {
			expectAct(t, act(plain(v("o")), kind, api.Atom{}), "(<s> ^y <o> "+sign+")")
		}
	}
	for kind, sign := range map[int]string{api.Better: ">", api.Worse: "<", api.Alike: "="} {
		for other, a := range map[string]api.Atom{"<p>": v("p"), "red": k(W("red")), "-3": k(N(-3)), "0": k(N(0))} {
			expectAct(t, act(plain(v("o")), kind, a), "(<s> ^y <o> "+sign+" "+other+")")
		}
	}
}

func TestAttributesOfActions(t *testing.T) {
	for want, a := range map[string]api.Atom{"y": k(W("y")), "<y>": v("y"), "5": k(N(5)), "-5": k(N(-5)), "0": k(N(0)), longest: k(W(longest))} {
		x := accept()
		x.Id, x.Attr = "t", a
		expectAct(t, x, "(<t> ^"+want+" <s> +)")
	}
}

// Whether variables are known is not asked, nor whether the first condition is a Pos.
func TestShapeAloneIsAsked(t *testing.T) {
	p := prod("a", []api.Cond{neg(pos("u", to(api.Lt, "w")))}, accept())
	if _, e := shape.Check(p); e == api.OK {
		t.Fatal("Check accepts it")
	}
	expect(t, "text", textOf(t, p), "sp {a\n  -(<u> ^x < <w>)\n-->\n  (<s> ^y <s> +)\n}\n")
}

// broken answers productions that are not of their form, each in another way, with Shape's error.
func broken() map[api.Errno][]api.Prod {
	change := func(f func(p *api.Prod)) api.Prod {
		p := example()
		f(&p)
		return p
	}
	return map[api.Errno][]api.Prod{
		api.ErrName: {{}, change(func(p *api.Prod) { p.Name = "" }), change(func(p *api.Prod) { p.Name = "A"; p.Acts = nil })},
		api.ErrMany: {
			{Name: "a"},
			change(func(p *api.Prod) { p.Conds = nil }),
			change(func(p *api.Prod) { p.Acts = nil }),
			change(func(p *api.Prod) { p.Conds = copies(api.MaxConds+1, p.Conds[0]) }),
			change(func(p *api.Prod) { p.Acts = copies(api.MaxActs+1, p.Acts[0]) }),
			change(func(p *api.Prod) { p.Conds[0].Value = copies(api.MaxTests+1, is(api.Eq, N(1))) }),
		},
		api.ErrNest: {change(func(p *api.Prod) { p.Conds[0] = all(all(all(all(p.Conds[0])))) })},
		api.ErrForm: {
			change(func(p *api.Prod) { p.Conds[0].Kind = 0 }),
			change(func(p *api.Prod) { p.Conds[0].Id = "" }),
			change(func(p *api.Prod) { p.Conds[0].Attr = nil }),
			change(func(p *api.Prod) { p.Conds[0].Value[0].Rel = 9 }),
			change(func(p *api.Prod) { p.Conds[0].Value[0].Sym = I("S", 1) }),
			change(func(p *api.Prod) { p.Conds = append(p.Conds, all()) }),
			change(func(p *api.Prod) { p.Acts[0].Pref = 0 }),
			change(func(p *api.Prod) { p.Acts[0].Pref = 11 }),
			change(func(p *api.Prod) { p.Acts[0].Value.Op = -1 }),
			change(func(p *api.Prod) { p.Acts[0].Other = v("s") }),
		},
	}
}

func TestErrorsAreShapes(t *testing.T) {
	for want, l := range broken() {
		for _, p := range l {
			_, e := shape.Shape(p)
			expect(t, fmt.Sprintf("Shape of %+v", p), e, want)
			text, e := show.Prod(p)
			expect(t, fmt.Sprintf("error of %+v", p), e, want)
			expect(t, fmt.Sprintf("text of %+v", p), text, "")
		}
	}
}

// What Shape would not accept has any text, but the calls end.
func TestOddPartsEnd(t *testing.T) {
	for _, l := range broken() {
		for _, p := range l {
			for _, c := range p.Conds {
				show.Cond(c)
			}
			for _, a := range p.Acts {
				show.Act(a)
			}
		}
	}
	for _, n := range []int{-1 << 63, -1, 0, 4, 9, 99, 1<<63 - 1} {
		show.Cond(api.Cond{Kind: n, Id: "s", Attr: tests(is(n, N(1)))})
		show.Cond(pos("s", is(n, N(n)), in(N(n))))
		show.Act(api.Act{Pref: n, Value: api.Term{Op: n}})
		show.Act(act(api.Term{Op: n, A: v("s"), B: v("s")}, n, v("s")))
	}
	endless := []api.Cond{{Kind: api.All}, {Kind: api.All}}
	endless[0].Conds, endless[1].Conds = endless, endless
	deep := pos("s")
	for range 1 << 16 {
		deep = all(deep)
	}
	for _, c := range []api.Cond{endless[0], deep} {
		show.Cond(c)
		p := example()
		p.Conds[0] = c
		_, e := show.Prod(p)
		expect(t, "error", e, api.ErrMany)
	}
}

// A text may have more bytes than are read.
func TestLongTexts(t *testing.T) {
	words := in(copies(api.MaxList, W(longest))...)
	c := about(pos(longest), copies(api.MaxTests, words)...)
	c.Value = copies(api.MaxTests, words)
	text := textOf(t, prod(longest, copies(api.MaxConds, c), copies(api.MaxActs, accept())...))
	if len(text) <= api.MaxText {
		t.Fatalf("only %d bytes", len(text))
	}
	list := "<<" + strings.Repeat(" "+longest, api.MaxList) + " >>"
	field := "{" + strings.Repeat(" "+list, api.MaxTests) + " }"
	want := "sp {" + longest + "\n" + strings.Repeat("  (<"+longest+"> ^"+field+" "+field+")\n", api.MaxConds) + "-->\n" + strings.Repeat("  (<s> ^y <s> +)\n", api.MaxActs) + "}\n"
	expect(t, "text", text, want)
}

func TestEmptyListsAreNone(t *testing.T) {
	p, q := example(), example()
	p.Conds, q.Conds = append(p.Conds, pos("s")), append(q.Conds, pos("s"))
	q.Conds[0].Value[0].List, q.Conds[1].Value, q.Conds[1].Conds = []api.Sym{}, tests(), []api.Cond{}
	expect(t, "text", textOf(t, q), textOf(t, p))
	c := all(pos("s"))
	c.Attr, c.Value = tests(), tests()
	expect(t, "text", show.Cond(c), "-{(<s> ^x)}")
}

func TestArgumentsStay(t *testing.T) {
	c := about(pos("s", to(api.Eq, "a"), in(N(1), W("d"))), is(api.Ne, W("c")), in(W("e")))
	spare := copies(5, all(c, neg(c), all(c)))
	p := prod("a", spare[:3], accept(), accept())
	before, behind := fmt.Sprintf("%+v", p), fmt.Sprintf("%+v", spare[3:])
	textOf(t, p)
	show.Cond(spare[0])
	show.Act(p.Acts[0])
	expect(t, "the production", fmt.Sprintf("%+v", p), before)
	expect(t, "what is behind its conditions", fmt.Sprintf("%+v", spare[3:]), behind)
}
