package read_test

import (
	"fmt"
	"iter"
	"reflect"
	"strconv"
	"strings"
	"testing"

	"ponder/api"
	"ponder/read"
)

func expect[T comparable](t *testing.T, what string, got, want T) {
	t.Helper()
	if got != want {
		t.Errorf("%s: got %v, want %v", what, got, want)
	}
}

// longest is a word that has as many bytes as a word may have.
var longest = "w" + strings.Repeat("-", api.MaxName-1)

// W is a word, N a number.
func W(text string) api.Sym { return api.Sym{Kind: api.Str, Text: text} }

func N(n int) api.Sym { return api.Sym{Kind: api.Int, N: n} }

// v is the atom of a variable, k that of a symbol.
func v(name string) api.Atom { return api.Atom{Var: name} }

func k(s api.Sym) api.Atom { return api.Atom{Sym: s} }

// is tests against a symbol, to against a variable, in against a list.
func is(rel int, s api.Sym) api.Test { return api.Test{Rel: rel, Sym: s} }

func to(rel int, name string) api.Test { return api.Test{Rel: rel, Var: name} }

func in(l ...api.Sym) api.Test { return api.Test{Rel: api.In, List: l} }

// tests is a field.
func tests(l ...api.Test) []api.Test { return l }

// pos is a condition about the attribute x.
func pos(id string, value ...api.Test) api.Cond { return about(id, "x", value...) }

// about is a condition about another attribute.
func about(id, attr string, value ...api.Test) api.Cond {
	return api.Cond{Kind: api.Pos, Id: id, Attr: tests(is(api.Eq, W(attr))), Value: value}
}

func neg(c api.Cond) api.Cond {
	c.Kind = api.Neg
	return c
}

func goal(c api.Cond) api.Cond {
	c.Goal = true
	return c
}

func acc(c api.Cond) api.Cond {
	c.Acc = true
	return c
}

func all(l ...api.Cond) api.Cond { return api.Cond{Kind: api.All, Conds: l} }

// act prefers a value as attribute y.
func act(value api.Term, kind int, other api.Atom) api.Act {
	return api.Act{Id: "s", Attr: k(W("y")), Value: value, Pref: kind, Other: other}
}

func plain(a api.Atom) api.Term { return api.Term{A: a} }

// accept is the action `(<s> ^y <s>)`.
func accept() api.Act { return act(plain(v("s")), api.Accept, api.Atom{}) }

func prod(name string, conds []api.Cond, acts ...api.Act) api.Prod {
	return api.Prod{Name: name, Conds: conds, Acts: acts}
}

// simple is the text of a production that has this name.
func simple(name string) string { return "sp {" + name + " (<s> ^x) --> (<s> ^y <s>)}" }

// simpleProd is that production.
func simpleProd(name string) api.Prod { return prod(name, []api.Cond{pos("s")}, accept()) }

// copies makes a list of n times the same.
func copies[T any](n int, x T) []T {
	var l []T
	for range n {
		l = append(l, x)
	}
	return l
}

// told writes what Each yields: `a b 5`, a production by its name and an error by its number.
func told(l iter.Seq2[api.Prod, api.Errno]) string {
	var parts []string
	for p, e := range l {
		switch {
		case e == api.OK:
			parts = append(parts, p.Name)
		case reflect.DeepEqual(p, api.Prod{}):
			parts = append(parts, strconv.Itoa(int(e)))
		default:
			parts = append(parts, fmt.Sprintf("%d with %+v", e, p))
		}
	}
	return strings.Join(parts, " ")
}

// expectRead holds that all functions read text as l.
func expectRead(t *testing.T, text string, l ...api.Prod) {
	t.Helper()
	got, at, e := read.All(text)
	if at != -1 || e != api.OK || !reflect.DeepEqual(got, l) {
		t.Fatalf("All of %q: got %+v, %d, %d, want %+v", text, got, at, e, l)
	}
	i := 0
	for p, e := range read.Each(text) {
		if e != api.OK || i >= len(l) || !reflect.DeepEqual(p, l[i]) {
			t.Fatalf("Each of %q: got %+v, %d as the one with index %d", text, p, e, i)
		}
		i++
	}
	expect(t, fmt.Sprintf("productions that Each of %q yields", text), i, len(l))
	if len(l) == 1 {
		p, at, e := read.One(text)
		if at != -1 || e != api.OK || !reflect.DeepEqual(p, l[0]) {
			t.Fatalf("One of %q: got %+v, %d, %d, want %+v", text, p, at, e, l[0])
		}
	}
}

// expectAllError holds that All has this error at this byte, and that Each yields the productions of these names and then the error.
func expectAllError(t *testing.T, text, names string, at int, e api.Errno) {
	t.Helper()
	l, gotAt, gotErr := read.All(text)
	if len(l) > 0 || gotAt != at || gotErr != e {
		t.Errorf("All of %q: got %+v, %d, %d, want %d, %d", text, l, gotAt, gotErr, at, e)
	}
	expect(t, fmt.Sprintf("Each of %q", text), told(read.Each(text)), strings.TrimSpace(names+" "+strconv.Itoa(int(e))))
}

// expectOneError holds that One has this error at this byte.
func expectOneError(t *testing.T, text string, at int, e api.Errno) {
	t.Helper()
	p, gotAt, gotErr := read.One(text)
	if !reflect.DeepEqual(p, api.Prod{}) || gotAt != at || gotErr != e {
		t.Errorf("One of %q: got %+v, %d, %d, want %d, %d", text, p, gotAt, gotErr, at, e)
	}
}

// expectError holds that all functions have this error at this byte, before any production was read.
func expectError(t *testing.T, text string, at int, e api.Errno) {
	t.Helper()
	expectAllError(t, text, "", at, e)
	expectOneError(t, text, at, e)
}

func TestExample(t *testing.T) {
	expectRead(t, "sp {a (state <s> ^x <v> -^y 3) --> (<s> ^z <v>)}", prod("a",
		[]api.Cond{goal(pos("s", to(api.Eq, "v"))), goal(neg(about("s", "y", is(api.Eq, N(3)))))},
		api.Act{Id: "s", Attr: k(W("z")), Value: plain(v("v")), Pref: api.Accept},
	))
}

func TestSeveralProductions(t *testing.T) {
	text := simple("a") + "\n" + simple("b") + "# of the same name\n" + simple("b") + simple("sp") + " "
	expectRead(t, text, simpleProd("a"), simpleProd("b"), simpleProd("b"), simpleProd("sp"))
	expectOneError(t, text, len(simple("a"))+1, api.ErrText)
	many := api.MaxText / len(simple("a"))
	expectRead(t, strings.Repeat(simple("a"), many), copies(many, simpleProd("a"))...)
}

func TestNoProduction(t *testing.T) {
	for _, text := range []string{"", " ", "\n\t\r ", "#", "# sp {a", "# (<s> ^x @\n ", strings.Repeat(" ", api.MaxText), "#" + strings.Repeat("@", api.MaxText-1)} {
		expectRead(t, text)
		expectOneError(t, text, len(text), api.ErrText)
	}
}

func TestLongTexts(t *testing.T) {
	blanks := strings.Repeat(" ", api.MaxText-len(simple("a")))
	expectRead(t, blanks+simple("a"), simpleProd("a"))
	expectRead(t, simple("a")+blanks, simpleProd("a"))
	expectError(t, blanks+simple("a")+" ", 0, api.ErrMany)
	expectError(t, simple("a")+blanks+" ", 0, api.ErrMany)
	expectError(t, simple("a")+blanks+"#", 0, api.ErrMany)
	expectError(t, "@"+strings.Repeat(" ", api.MaxText), 0, api.ErrMany)
	expectError(t, strings.Repeat("\u00e4", api.MaxText/2)+"a", 0, api.ErrMany)
	expectError(t, strings.Repeat("\u00e4", api.MaxText/2), 0, api.ErrText)
	expectError(t, strings.Repeat("sp {a ", 1<<20), 0, api.ErrMany)
}

// marked splits a text at the mark `@@`: the text without it, and where it was.
func marked(text string) (string, int) {
	at := strings.Index(text, "@@")
	return text[:at] + text[at+2:], at
}

func TestTextErrors(t *testing.T) {
	for _, with := range []string{
		"@@x", "@@(<s> ^x)", "@@}", "@@{a}", "@@<sp> {a", "@@A", "@@sp_ {a", "@@spa {a", "@@5", "@@-->", "@@- sp {a",
		"sp @@a", "sp@@(", "sp @@", "sp@@<sp>", "sp @@sp {a", "sp @@-{a",
		"sp {@@5 (<s> ^x)", "sp {@@<a> (<s> ^x)", "sp {@@(<s> ^x)", "sp {@@}", "sp {@@{a", "sp {@@A (<s> ^x)", "sp {@@-a", "sp {@@w" + longest + " (<s> ^x)",
		"sp {a @@--> (<s> ^y 1)}", "sp {a @@}", "sp {a @@b (<s> ^x)", "sp {a @@", "sp {a @@<s>", "sp {a @@{(<s> ^x)}", "sp {a--@@> (<s> ^y 1)}",
		"sp {a (@@)", "sp {a (@@^x)", "sp {a (@@s ^x)", "sp {a (@@sp <s> ^x)", "sp {a (@@5 ^x)", "sp {a (@@(", "sp {a (<s> @@state ^x)",
		"sp {a (state @@^x)", "sp {a (state @@state <s> ^x)", "sp {a (state @@state ^x)", "sp {a (<state> @@<s> ^x)", "sp {a @@state (<s> ^x)", "sp {a -@@state (<s> ^x)",
		"sp {a (<s> @@)", "sp {a (<s> @@x)", "sp {a (<s> @@+)", "sp {a (<s> -@@)", "sp {a (<s> - @@- ^x)", "sp {a (<s> @@-5)", "sp {a (<s> -@@x)", "sp {a (<s> @@--> ^x)",
		"sp {a (<s> ^@@)", "sp {a (<s> ^@@^x)", "sp {a (<s> ^@@+)", "sp {a (<s> ^@@-^x)", "sp {a (<s> ^@@(", "sp {a (<s> ^@@=", "sp {a (<s> ^@@>>", "sp {a (<s> ^@@!",
		"sp {a (<s> ^x y @@z)", "sp {a (<s> ^x y @@5)", "sp {a (<s> ^x y @@<z>)", "sp {a (<s> ^x y @@-5)", "sp {a (<s> ^x y @@> 5)", "sp {a (<s> ^x y @@{ z })", "sp {a (<s> ^x y @@<< z >>)",
		"sp {a (<s> ^x y + @@+)", "sp {a (<s> ^x + @@y)", "sp {a (<s> ^x y + @@z)", "sp {a (<s> ^x y + @@<v>)", "sp {a (<s> ^x y @@!)", "sp {a (<s> ^x y @@~)", "sp {a (<s> ^x y @@= 5)",
		"sp {a (<s> ^x @@(+ 1 2))", "sp {a (<s> ^x @@(", "sp {a (<s> ^x @@}", "sp {a (<s> ^x @@*)", "sp {a (<s> ^x y @@--> (<s> ^y 1)}", "sp {a (<s> ^x @@",
		"sp {a (<s> ^{@@})", "sp {a (<s> ^x { @@})", "sp {a (<s> ^x {@@", "sp {a (<s> ^x { @@{ y } })", "sp {a (<s> ^x { y @@+ })", "sp {a (<s> ^x { y @@)", "sp {a (<s> ^x { y @@^z", "sp {a (<s> ^x { y @@", "sp {a (<s> ^x { y @@- 5 })",
		"sp {a (<s> ^x <@@)", "sp {a (<s> ^x < @@> 5)", "sp {a (<s> ^x > @@> 5)", "sp {a (<s> ^x @@>> y)", "sp {a (<s> ^x <> @@<< y >>)", "sp {a (<s> ^x >= @@{ 5 })", "sp {a (<s> ^x <=> @@+)", "sp {a (<s> ^x { <= @@}",
		"sp {a (<s> ^x <<@@>>)", "sp {a (<s> ^x << @@<v> >>)", "sp {a (<s> ^x << y @@<v> >>)", "sp {a (<s> ^x << @@<> y >>)", "sp {a (<s> ^x << @@<< y >> >>)", "sp {a (<s> ^x << y @@> >)", "sp {a (<s> ^x << y @@)", "sp {a (<s> ^x << y @@", "sp {a (<s> ^x <<s@@>)",
		"sp {a -@@", "sp {a -@@-(<s> ^x)", "sp {a -@@<s>", "sp {a -@@)", "sp {a - @@--> (<s> ^y 1)}", "sp {a (<s> ^x) @@+", "sp {a (<s> ^x) @@)", "sp {a (<s> ^x) @@b", "sp {a @@-5",
		"sp {a -{@@}", "sp {a -{ @@--> ", "sp {a -{@@<s> ^x}", "sp {a -{@@{(<s> ^x)}}", "sp {a -{(<s> ^x) @@", "sp {a -{(<s> ^x) @@)", "sp {a -{(<s> ^x) @@--> (<s> ^y 1)}", "sp {a -{-{(<s> ^x)} @@-->", "sp {a -{(<s> ^x)}@@}",
		"sp {a (<s> ^x) @@}", "sp {a (<s> ^x) @@", "sp {a (<s> ^x) - @@->", "sp {a (<s> ^x) -->@@}", "sp {a (<s> ^x) --> @@", "sp {a (<s> ^x) --> @@-(<s> ^y 1)}", "sp {a (<s> ^x) --> @@--> (<s> ^y 1)}", "sp {a (<s> ^x) --> @@<s> ^y 1}",
		"sp {a (<s> ^x) --> (@@)", "sp {a (<s> ^x) --> (@@state <s> ^y 1)}", "sp {a (<s> ^x) --> (@@s ^y 1)}", "sp {a (<s> ^x) --> (<s> @@)", "sp {a (<s> ^x) --> (<s> @@-^y 1)}", "sp {a (<s> ^x) --> (<s> @@y 1)}", "sp {a (<s> ^x) --> (<s> ^@@)",
		"sp {a (<s> ^x) --> (<s> ^@@{ y } 1)}", "sp {a (<s> ^x) --> (<s> ^@@(+ 1 2) 1)}", "sp {a (<s> ^x) --> (<s> ^@@<> y 1)}", "sp {a (<s> ^x) --> (<s> ^y @@)}", "sp {a (<s> ^x) --> (<s> ^y @@+)}", "sp {a (<s> ^x) --> (<s> ^y @@^z 1)}", "sp {a (<s> ^x) --> (<s> ^y @@<< z >>)}", "sp {a (<s> ^x) --> (<s> ^y @@{ z })}", "sp {a (<s> ^x) --> (<s> ^y @@- 5)}",
		"sp {a (<s> ^x) --> (<s> ^y (@@", "sp {a (<s> ^x) --> (<s> ^y (@@)", "sp {a (<s> ^x) --> (<s> ^y (@@1 2))}", "sp {a (<s> ^x) --> (<s> ^y (@@-1 2))}", "sp {a (<s> ^x) --> (<s> ^y (@@! 1 2))}", "sp {a (<s> ^x) --> (<s> ^y (@@= 1 2))}", "sp {a (<s> ^x) --> (<s> ^y (+ @@+ 1 2))}", "sp {a (<s> ^x) --> (<s> ^y (+ @@(+ 1 2) 3))}", "sp {a (<s> ^x) --> (<s> ^y (+ 1@@))}", "sp {a (<s> ^x) --> (<s> ^y (* 1 @@(* 1 2)))}", "sp {a (<s> ^x) --> (<s> ^y (* 1 2 @@3))}", "sp {a (<s> ^x) --> (<s> ^y (- 1 2@@}",
		"sp {a (<s> ^x) --> (<s> ^y 1 @@2)}", "sp {a (<s> ^x) --> (<s> ^y 1 @@-2)}", "sp {a (<s> ^x) --> (<s> ^y 1 + @@2)}", "sp {a (<s> ^x) --> (<s> ^y 1 - @@<v>)}", "sp {a (<s> ^x) --> (<s> ^y 1 ! @@z)}", "sp {a (<s> ^x) --> (<s> ^y 1 ~ @@z)}", "sp {a (<s> ^x) --> (<s> ^y 1 + @@+)}", "sp {a (<s> ^x) --> (<s> ^y 1 > @@>)}", "sp {a (<s> ^x) --> (<s> ^y 1 > 2 @@3)}", "sp {a (<s> ^x) --> (<s> ^y 1 = 2 @@=)}", "sp {a (<s> ^x) --> (<s> ^y 1 > @@(+ 1 2))}",
		"sp {a (<s> ^x) --> (<s> ^y 1 @@<> 2)}", "sp {a (<s> ^x) --> (<s> ^y 1 @@>= 2)}", "sp {a (<s> ^x) --> (<s> ^y 1 @@<= 2)}", "sp {a (<s> ^x) --> (<s> ^y 1 @@<=> 2)}", "sp {a (<s> ^x) --> (<s> ^y 1 @@*)}", "sp {a (<s> ^x) --> (<s> ^y 1 @@<<)}", "sp {a (<s> ^x) --> (<s> ^y 1 @@}", "sp {a (<s> ^x) --> (<s> ^y 1 @@",
		"sp {a (<s> ^x) --> (<s> ^y 1) @@", "sp {a (<s> ^x) --> (<s> ^y 1) @@)}", "sp {a (<s> ^x) --> (<s> ^y 1) @@--> (<s> ^y 1)}", "sp {a (<s> ^x) --> (<s> ^y 1) @@-(<s> ^y 1)}", "sp {a (<s> ^x) --> (<s> ^y 1) @@sp {b (<s> ^x) --> (<s> ^y 1)}", "sp {a (<s> ^x) --> (<s> ^y 1) @@+}",
	} {
		text, at := marked(with)
		expectError(t, text, at, api.ErrText)
		blanks := " # {\n\t"
		expectError(t, blanks+text, len(blanks)+at, api.ErrText)
		expectAllError(t, simple("b")+simple("c")+text, "b c", 2*len(simple("b"))+at, api.ErrText)
		expectOneError(t, simple("b")+text, len(simple("b")), api.ErrText)
	}
}

// A Bad token can be nowhere; its index is that of its first byte.
func TestBadTokens(t *testing.T) {
	text := "sp {a (state <s> ^x { <v> <> -5 << a 1 >> } + -^y) -{-(<s> ^x)} --> (<s> ^y (+ 1 <v>) > <w>)}"
	places := []int{0, 2, 4, 5, 6, 7, 12, 17, 18, 19, 22, 50, 51, 52, 53, 64, 68, len(text) - 1, len(text)}
	for _, bad := range []string{"@", "A", "S1", "007", "-0", "2147483648", "-2147483648", "w" + longest, "<w" + longest + ">", "\x00", "\xff", "\u00e4", ".", "'", "_"} {
		for _, at := range places {
			with := text[:at] + " " + bad + " " + text[at:]
			if at < len(text) {
				expectError(t, with, at+1, api.ErrText)
				continue
			}
			expectAllError(t, with, "a", at+1, api.ErrText)
			expectOneError(t, with, at+1, api.ErrText)
		}
	}
}

// tooNested is a condition within one All more than there may be.
const tooNested = "-{-{-{-{(<s> ^x)}}}}"

// unshapely answers texts that can be read to their end, but of which Shape does not accept the production.
func unshapely() map[string]api.Errno {
	conds := func(c string) string { return "sp {a " + c + " --> (<s> ^y 1)}" }
	acts := func(a string) string { return "sp {a (<s> ^x) --> " + a + "}" }
	return map[string]api.Errno{
		conds(strings.Repeat("(<s> ^x)", api.MaxConds+1)):                                api.ErrMany,
		conds("(<s>" + strings.Repeat("-^x", api.MaxConds+1) + ")"):                      api.ErrMany,
		conds("-(<s>" + strings.Repeat("^x", api.MaxConds) + ")"):                        api.ErrMany,
		conds("-{" + strings.Repeat("(<s> ^x)", api.MaxConds) + "}"):                     api.ErrMany,
		conds(strings.Repeat("-{", api.MaxConds) + "(<s> ^x)" + strings.Repeat("}", 16)): api.ErrMany,
		conds(strings.Repeat("-{", 8000) + "(<s> ^x)" + strings.Repeat("}", 8000)):       api.ErrMany,
		conds("(<s> ^{ a b c d e })"):                                                    api.ErrMany,
		conds("(<s> ^a { <a> <b> <c> <d> <e> })"):                                        api.ErrMany,
		acts(strings.Repeat("(<s> ^y 1)", api.MaxActs+1)):                                api.ErrMany,
		acts("(<s>" + strings.Repeat(" ^y 1", api.MaxActs+1) + ")"):                      api.ErrMany,
		acts("(<s> ^y (+ a 1))(<s>" + strings.Repeat(" ^y 1", api.MaxActs) + ")"):        api.ErrMany,
		conds(tooNested):                                    api.ErrNest,
		conds("-{-{-{-(<s> ^x -^x)}}}"):                     api.ErrNest,
		conds("-{-{-{-(<s> -^x)}}}"):                        api.ErrNest,
		conds(tooNested + "(<s> ^{ a b c d e })"):           api.ErrNest,
		conds("(<s> ^{ a b c d e })" + tooNested):           api.ErrMany,
		conds("(<s> ^<< a b c d e f g h i >>)"):             api.ErrForm,
		conds("(<s> ^x { 1 << 1 2 3 4 5 6 7 8 9 >> })"):     api.ErrForm,
		acts("(<s> ^y (+ a 1))"):                            api.ErrForm,
		acts("(<s> ^y (- 1 a))"):                            api.ErrForm,
		acts("(<s> ^y 1 ^y 2 ^y (* <s> state) ^y (+ 1 1))"): api.ErrForm,
	}
}

func TestShapeErrors(t *testing.T) {
	for text, e := range unshapely() {
		expectError(t, text, 0, e)
		expectError(t, " #\n\n"+text, 4, e)
		expectError(t, text+simple("b"), 0, e)
		expectAllError(t, simple("b")+" "+text, "b", len(simple("b"))+1, e)
		expectOneError(t, simple("b")+" "+text, len(simple("b"))+1, api.ErrText)
	}
}

// What comes first counts: a token that can not be there within a production is ahead of what Shape says of it, and both are ahead of what is behind it.
func TestFirstErrorCounts(t *testing.T) {
	for text, e := range unshapely() {
		open := text[:len(text)-1]
		expectError(t, open, len(open), api.ErrText)
		expectError(t, open+"]}", len(open), api.ErrText)
		for _, behind := range []string{"@", "}", "x", "sp", "sp {", "sp {b}", simple("b") + "@"} {
			expectError(t, text+behind, 0, e)
		}
	}
}

func TestBehindTheOnlyProduction(t *testing.T) {
	text := simple("a")
	for _, behind := range []string{"@", "A", "}", "x", "5", "<sp>", "{", "-->", "# {\n007"} {
		at := len(text) + strings.LastIndex(behind, "\n") + 1
		expectAllError(t, text+behind, "a", at, api.ErrText)
		expectOneError(t, text+behind, at, api.ErrText)
	}
	for _, behind := range []string{"sp", "sp {", "sp {b (<s> ^x) --> @", simple("b"), simple("b") + "@"} {
		expectOneError(t, text+"\n"+behind, len(text)+1, api.ErrText)
	}
	for _, behind := range []string{"", " ", "\n", "#", "# x", "\t#\n\r\n"} {
		expectRead(t, text+behind, simpleProd("a"))
	}
}

// Whether variables are known is not asked, nor whether the first condition is a Pos.
func TestShapeAloneIsAsked(t *testing.T) {
	expectRead(t, "sp {a -(<u> ^x < <w>) --> (<s> ^y <s>)}", prod("a", []api.Cond{neg(pos("u", to(api.Lt, "w")))}, accept()))
}
