package read_test

import (
	"strings"
	"testing"

	"ponder/api"
	"ponder/lex"
)

// expectConds holds that text, in the place of conditions, is read as these.
func expectConds(t *testing.T, text string, l ...api.Cond) {
	t.Helper()
	expectRead(t, "sp {a "+text+" --> (<s> ^y <s>)}", prod("a", l, accept()))
}

// expectActs holds that text, in the place of actions, is read as these.
func expectActs(t *testing.T, text string, l ...api.Act) {
	t.Helper()
	expectRead(t, "sp {a (<s> ^x) --> "+text+"}", prod("a", []api.Cond{pos("s")}, l...))
}

// expectItem holds that text, in the place of an item, is read as c in a Pos and in a Neg, with and without `state`.
func expectItem(t *testing.T, text string, c api.Cond) {
	t.Helper()
	expectConds(t, "(<s> "+text+")", c)
	expectConds(t, "(<s> -"+text+")", neg(c))
	expectConds(t, "-(<s> "+text+")", neg(c))
	expectConds(t, "-(<s> -"+text+")", all(neg(c)))
	expectConds(t, "(state <s> "+text+")", goal(c))
	expectConds(t, "-(state <s> "+text+")", goal(neg(c)))
}

func TestNames(t *testing.T) {
	for _, name := range []string{"a", "sp", "state", "a-b_1", longest} {
		expectRead(t, simple(name), simpleProd(name))
		expectConds(t, "(<"+name+"> ^x <"+name+">)", pos(name, to(api.Eq, name)))
		expectConds(t, "(state <"+name+"> ^"+name+" "+name+")", goal(about(name, name, is(api.Eq, W(name)))))
		a := act(plain(k(W(name))), api.Better, k(W(name)))
		a.Id, a.Attr = name, k(W(name))
		expectActs(t, "(<"+name+"> ^"+name+" "+name+" > "+name+")", a)
		a = act(plain(v(name)), api.Alike, v(name))
		a.Id, a.Attr = name, v(name)
		expectActs(t, "(<"+name+"> ^<"+name+"> <"+name+"> = <"+name+">)", a)
	}
}

func TestNumbers(t *testing.T) {
	for text, n := range map[string]int{"0": 0, "1": 1, "-1": -1, "305": 305, "2147483647": api.MaxInt, "-2147483647": -api.MaxInt} {
		expectItem(t, "^"+text+" "+text, api.Cond{Kind: api.Pos, Id: "s", Attr: tests(is(api.Eq, N(n))), Value: tests(is(api.Eq, N(n)))})
		expectItem(t, "^x << "+text+" >>", pos("s", in(N(n))))
		a := act(api.Term{Op: api.Sub, A: k(N(n)), B: k(N(n))}, api.Worse, k(N(n)))
		a.Attr = k(N(n))
		expectActs(t, "(<s> ^"+text+" (- "+text+" "+text+") < "+text+")", a)
	}
}

func TestItems(t *testing.T) {
	c := pos("s", is(api.Eq, W("y")))
	expectItem(t, "^x y", c)
	expectItem(t, "^x y +", acc(c))
	expectItem(t, "^x", pos("s"))
	expectItem(t, "^x +", acc(pos("s")))
	expectItem(t, "^x -5", pos("s", is(api.Eq, N(-5))))
	expectItem(t, "^{ x }", pos("s"))
	expectItem(t, "^x { y }", c)
	expectItem(t, "^{x} {y}+", acc(c))
	expectItem(t, "^<v>", api.Cond{Kind: api.Pos, Id: "s", Attr: tests(to(api.Eq, "v"))})
	expectItem(t, "^<v><w>", api.Cond{Kind: api.Pos, Id: "s", Attr: tests(to(api.Eq, "v")), Value: tests(to(api.Eq, "w"))})
	expectItem(t, "^state state", about("s", "state", is(api.Eq, W("state"))))
	expectItem(t, "^state", about("s", "state"))
}

func TestTests(t *testing.T) {
	for text, x := range map[string]api.Test{
		"<v>": to(api.Eq, "v"), "<> <v>": to(api.Ne, "v"), "< <v>": to(api.Lt, "v"), "<= <v>": to(api.Le, "v"), "> <v>": to(api.Gt, "v"), ">= <v>": to(api.Ge, "v"), "<=> <v>": to(api.Same, "v"),
		"y": is(api.Eq, W("y")), "<> y": is(api.Ne, W("y")), "< y": is(api.Lt, W("y")), "<=y": is(api.Le, W("y")), ">y": is(api.Gt, W("y")), ">=y": is(api.Ge, W("y")), "<=>y": is(api.Same, W("y")),
		"7": is(api.Eq, N(7)), "<>7": is(api.Ne, N(7)), "<7": is(api.Lt, N(7)), "<=-7": is(api.Le, N(-7)), ">-7": is(api.Gt, N(-7)), ">=7": is(api.Ge, N(7)), "<=>-7": is(api.Same, N(-7)),
		"<<y>>": in(W("y")), "<< 1 >>": in(N(1)), "<<a b a>>": in(W("a"), W("b"), W("a")), "<< -1 a 0-1 >>": in(N(-1), W("a"), N(0), N(-1)), "<< a b c d 1 2 3 4 >>": in(W("a"), W("b"), W("c"), W("d"), N(1), N(2), N(3), N(4)),
	} {
		single := pos("s", x)
		expectItem(t, "^x "+text, single)
		expectItem(t, "^x "+text+" +", acc(single))
		expectItem(t, "^x {"+text+"}", single)
		expectItem(t, "^x{<u> "+text+" <> z "+text+"}+", acc(pos("s", to(api.Eq, "u"), x, is(api.Ne, W("z")), x)))
		about := api.Cond{Kind: api.Pos, Id: "s", Attr: tests(x)}
		expectItem(t, "^"+text, about)
		expectItem(t, "^ "+text+" +", acc(about))
		about.Attr, about.Value = tests(x, is(api.Ne, W("z"))), tests(x)
		expectItem(t, "^{"+text+" <> z} "+text, about)
	}
}

func TestClauses(t *testing.T) {
	x, y, z := pos("s"), about("s", "y", to(api.Eq, "v")), about("s", "z", is(api.Lt, N(3)))
	expectConds(t, "(<s> ^x ^y <v> ^z < 3)", x, y, z)
	expectConds(t, "(<s> -^x ^y <v> -^z < 3)", neg(x), y, neg(z))
	expectConds(t, "(<s> ^x + ^y <v> - ^z < 3 +)", acc(x), y, neg(acc(z)))
	expectConds(t, "(state <s> -^x ^y <v>)", goal(neg(x)), goal(y))
	expectConds(t, "(state <s> ^x)(<s> ^y <v>)", goal(x), y)
	expectConds(t, "(<s> ^x ^x) (<s> ^x)", x, x, x)
	expectConds(t, "(<s> ^x)(<v> ^x ^x)(<s> ^y <v>)", x, pos("v"), pos("v"), y)
	expectConds(t, "(<s>"+strings.Repeat("^x", api.MaxConds)+")", copies(api.MaxConds, x)...)
	expectConds(t, strings.Repeat("(<s>^x)", api.MaxConds), copies(api.MaxConds, x)...)
}

func TestNegatedClauses(t *testing.T) {
	x, y := pos("s"), about("s", "y", to(api.Eq, "v"))
	expectConds(t, "-(<s> ^x)", neg(x))
	expectConds(t, "- ( <s> ^ x )", neg(x))
	expectConds(t, "-(<s> -^x)", all(neg(x)))
	expectConds(t, "-(<s> ^x ^y <v>)", all(x, y))
	expectConds(t, "-(<s> -^x ^y <v>)", all(neg(x), y))
	expectConds(t, "-(<s> ^x -^y <v>)", all(x, neg(y)))
	expectConds(t, "-(<s> -^x -^y <v>)", all(neg(x), neg(y)))
	expectConds(t, "-(state <s> ^x + -^y <v> +)", all(acc(goal(x)), acc(goal(neg(y)))))
	expectConds(t, "(<s> ^x) -(<s> ^x) (<s> -^x) -(<s> ^x ^x) (<s> ^x)", x, neg(x), neg(x), all(x, x), x)
	expectConds(t, "-(<s>"+strings.Repeat("^x", api.MaxConds-1)+")", all(copies(api.MaxConds-1, x)...))
}

func TestAlls(t *testing.T) {
	x, y := pos("s"), about("s", "y", to(api.Eq, "v"))
	expectConds(t, "-{(<s> ^x)}", all(x))
	expectConds(t, "- { (<s> -^x) }", all(neg(x)))
	expectConds(t, "-{-(<s> ^x)}", all(neg(x)))
	expectConds(t, "-{-(<s> -^x)}", all(all(neg(x))))
	expectConds(t, "-{(<s> ^x ^y <v>)}", all(x, y))
	expectConds(t, "-{(<s> ^x) (<s> ^y <v>)}", all(x, y))
	expectConds(t, "-{-(<s> ^x ^y <v>)}", all(all(x, y)))
	expectConds(t, "-{(<s> ^x -^y <v>) -(<s> ^x) (state <s> ^x)}", all(x, neg(y), neg(x), goal(x)))
	expectConds(t, "-{-{(<s> ^x)}}", all(all(x)))
	expectConds(t, "-{-{-{(<s> ^x)}}}", all(all(all(x))))
	expectConds(t, "-{-{-(<s> ^x ^x)}}", all(all(all(x, x))))
	expectConds(t, "-{-{(<s> ^x)} -{(<s> ^y <v>)} (<s> ^x)} -{(<s> ^x)} (<s> ^x)", all(all(x), all(y), x), all(x), x)
	expectConds(t, "-{(<s> ^x) -{(<s> ^y <v>) -(<s> ^x)} (<s> ^x)}", all(x, all(y, neg(x)), x))
}

func TestTerms(t *testing.T) {
	for text, x := range map[string]api.Term{
		"<v>": plain(v("v")), "y": plain(k(W("y"))), "7": plain(k(N(7))), "-7": plain(k(N(-7))), "0": plain(k(N(0))), "state": plain(k(W("state"))),
		"(+ <v> <w>)": {Op: api.Add, A: v("v"), B: v("w")}, "(- <v> 1)": {Op: api.Sub, A: v("v"), B: k(N(1))}, "(* 1 <v>)": {Op: api.Mul, A: k(N(1)), B: v("v")},
		"(--1-1)": {Op: api.Sub, A: k(N(-1)), B: k(N(-1))}, "(+0 0)": {Op: api.Add, A: k(N(0)), B: k(N(0))}, "(*<v><v>)": {Op: api.Mul, A: v("v"), B: v("v")}, "(- 2 -2)": {Op: api.Sub, A: k(N(2)), B: k(N(-2))},
	} {
		for pref, kind := range map[string]int{"": api.Accept, "+": api.Accept, "-": api.Reject, "!": api.Require, "~": api.Prohibit, ">": api.Best, "<": api.Worst, "=": api.Indiff} {
			expectActs(t, "(<s> ^y "+text+" "+pref+")", act(x, kind, api.Atom{}))
			expectActs(t, "(<s> ^y "+text+" "+pref+" ^y 1)", act(x, kind, api.Atom{}), act(plain(k(N(1))), api.Accept, api.Atom{}))
		}
		for pref, kind := range map[string]int{">": api.Better, "<": api.Worse, "=": api.Alike} {
			for other, a := range map[string]api.Atom{"<o>": v("o"), "o": k(W("o")), "7": k(N(7)), "-7": k(N(-7)), "0": k(N(0)), "sp": k(W("sp"))} {
				expectActs(t, "(<s> ^y "+text+" "+pref+" "+other+")", act(x, kind, a))
				expectActs(t, "(<s> ^y "+text+" "+pref+" "+other+" ^y 1)", act(x, kind, a), act(plain(k(N(1))), api.Accept, api.Atom{}))
			}
		}
	}
}

func TestActs(t *testing.T) {
	about := func(id string, attr, value api.Atom, pref int) api.Act {
		return api.Act{Id: id, Attr: attr, Value: plain(value), Pref: pref}
	}
	a, b, c := about("s", k(W("a")), k(N(1)), api.Reject), about("s", v("b"), v("c"), api.Best), about("t", k(N(-2)), k(W("d")), api.Accept)
	expectActs(t, "(<s> ^a 1 - ^<b> <c> >)(<t> ^-2 d)", a, b, c)
	expectActs(t, "(<s> ^a 1 -) (<s> ^ <b> <c> >) (<t> ^ -2 d +)", a, b, c)
	expectActs(t, "(<t> ^-2d^-2d+^-2 d)", c, c, c)
	expectActs(t, "(<s>"+strings.Repeat("^y<s>", api.MaxActs)+")", copies(api.MaxActs, accept())...)
	expectActs(t, strings.Repeat("(<s>^y<s>)", api.MaxActs), copies(api.MaxActs, accept())...)
}

// fullText is a text in which each part of the grammar occurs, and full what it is read as.
const fullText = "sp {a (state <s> ^x <v> -^{ y <> <v> } { << a 1 >> >= -2 } +) -(<v> ^<s>) -{(<v> ^x -^x) -{-(<s> ^x ^x)}} --> (<s> ^y <s> ^<v> (- <v> 7) >) (<n> ^y (+ -1 <v>) < <s> ^y -1 = z)}"

func full() api.Prod {
	y := api.Cond{Kind: api.Neg, Goal: true, Id: "s", Attr: tests(is(api.Eq, W("y")), to(api.Ne, "v")), Value: tests(in(W("a"), N(1)), is(api.Ge, N(-2))), Acc: true}
	s := api.Cond{Kind: api.Neg, Id: "v", Attr: tests(to(api.Eq, "s"))}
	return prod("a",
		[]api.Cond{goal(pos("s", to(api.Eq, "v"))), y, s, all(pos("v"), neg(pos("v")), all(all(pos("s"), pos("s"))))},
		accept(),
		api.Act{Id: "s", Attr: v("v"), Value: api.Term{Op: api.Sub, A: v("v"), B: k(N(7))}, Pref: api.Best},
		api.Act{Id: "n", Attr: k(W("y")), Value: api.Term{Op: api.Add, A: k(N(-1)), B: v("v")}, Pref: api.Worse, Other: v("s")},
		api.Act{Id: "n", Attr: k(W("y")), Value: plain(k(N(-1))), Pref: api.Alike, Other: k(W("z"))},
	)
}

func TestFull(t *testing.T) { expectRead(t, fullText, full()) }

// What stands between tokens does not matter, and nothing needs to where they are the same tokens without.
func TestBetweenTokens(t *testing.T) {
	whole := lex.All(fullText)
	for _, gap := range []string{" ", "\n", "\t\r\n ", "#\n", " # } @ sp {\n#\r\n", ""} {
		text := gap
		for _, x := range whole {
			if joined := lex.All(text + source(x)); gap == "" && joined[len(joined)-2].Text != x.Text {
				text += " "
			}
			text += source(x) + gap
		}
		expectRead(t, text, full())
	}
}

// source answers the bytes of a token.
func source(x lex.Token) string {
	if x.Kind == lex.Var {
		return "<" + x.Text + ">"
	}
	return x.Text
}
