package shape_test

import (
	"fmt"
	"strings"
	"testing"

	"ponder/api"
	"ponder/shape"
)

func expect[T comparable](t *testing.T, what string, got, want T) {
	t.Helper()
	if got != want {
		t.Errorf("%s: got %v, want %v", what, got, want)
	}
}

// longest is a word that has as many bytes as a word may have.
var longest = "w" + strings.Repeat("-", api.MaxName-1)

// W is a word, N a number, I an identifier.
func W(text string) api.Sym { return api.Sym{Kind: api.Str, Text: text} }

func N(n int) api.Sym { return api.Sym{Kind: api.Int, N: n} }

func I(letter string, n int) api.Sym { return api.Sym{Kind: api.Id, Text: letter, N: n} }

// v is the atom of a variable, k that of a symbol.
func v(name string) api.Atom { return api.Atom{Var: name} }

func k(s api.Sym) api.Atom { return api.Atom{Sym: s} }

// is tests against a symbol, to against a variable, in against a list.
func is(rel int, s api.Sym) api.Test { return api.Test{Rel: rel, Sym: s} }

func to(rel int, name string) api.Test { return api.Test{Rel: rel, Var: name} }

func in(l ...api.Sym) api.Test { return api.Test{Rel: api.In, List: l} }

// pos is a condition about the attribute x.
func pos(id string, value ...api.Test) api.Cond {
	return api.Cond{Kind: api.Pos, Id: id, Attr: []api.Test{is(api.Eq, W("x"))}, Value: value}
}

func neg(id string, value ...api.Test) api.Cond {
	c := pos(id, value...)
	c.Kind = api.Neg
	return c
}

func goal(id string, value ...api.Test) api.Cond {
	c := pos(id, value...)
	c.Goal = true
	return c
}

func all(l ...api.Cond) api.Cond { return api.Cond{Kind: api.All, Conds: l} }

// act prefers a value as attribute y.
func act(id string, value api.Atom) api.Act {
	return api.Act{Id: id, Attr: k(W("y")), Value: api.Term{A: value}, Pref: api.Accept}
}

func prod(conds []api.Cond, acts ...api.Act) api.Prod {
	return api.Prod{Name: "p", Conds: conds, Acts: acts}
}

// of makes a production of these conditions with an action that needs nothing.
func of(conds ...api.Cond) api.Prod { return prod(conds, act("new", k(N(1)))) }

// doing makes a production of these actions.
func doing(acts ...api.Act) api.Prod { return prod([]api.Cond{goal("s", to(api.Eq, "a"))}, acts...) }

func expectShape(t *testing.T, what string, p api.Prod, place int, e api.Errno) {
	t.Helper()
	got, err := shape.Shape(p)
	if got != place || err != e {
		t.Errorf("Shape of %s: got %d, %d, want %d, %d", what, got, err, place, e)
	}
}

// expectWrong holds that Shape finds the fault, and that Check and Vars heed it.
func expectWrong(t *testing.T, what string, p api.Prod, place int, e api.Errno) {
	t.Helper()
	expectShape(t, what, p, place, e)
	expectCheck(t, what, p, place, e)
}

// copies makes a list of n times the same.
func copies[T any](n int, x T) []T {
	var l []T
	for range n {
		l = append(l, x)
	}
	return l
}

func TestRightProductions(t *testing.T) {
	for what, p := range map[string]api.Prod{
		"a small one":             of(goal("s")),
		"the longest name":        {Name: longest, Conds: of(goal("s")).Conds, Acts: of().Acts},
		"as many conditions":      of(copies(api.MaxConds, goal("s"))...),
		"as many, inner included": of(goal("s"), all(copies(api.MaxConds-2, neg("s"))...)),
		"as many actions":         doing(copies(api.MaxActs, act("s", v("a")))...),
		"unknown variables":       of(pos("s")),
		"a Neg first":             of(neg("s")),
		"an All first":            of(all(goal("s"))),
		"Alls as deep as may be":  of(goal("s"), all(all(all(neg("s"))))),
		"deep Alls side by side":  of(goal("s"), all(all(all(neg("s"))), all(all(neg("s")), pos("s"))), all(all(all(neg("s"))))),
	} {
		expectShape(t, what, p, -1, api.OK)
	}
}

func TestWholes(t *testing.T) {
	right := of(goal("s"))
	for what, c := range map[string]struct {
		change func(p *api.Prod)
		want   api.Errno
	}{
		"no name":                      {func(p *api.Prod) { p.Name = "" }, api.ErrName},
		"a number as name":             {func(p *api.Prod) { p.Name = "1" }, api.ErrName},
		"a capital in the name":        {func(p *api.Prod) { p.Name = "aB" }, api.ErrName},
		"a blank in the name":          {func(p *api.Prod) { p.Name = "a b" }, api.ErrName},
		"too long a name":              {func(p *api.Prod) { p.Name = longest + "x" }, api.ErrName},
		"no name and nothing":          {func(p *api.Prod) { *p = api.Prod{} }, api.ErrName},
		"no name and a bad condition":  {func(p *api.Prod) { p.Name = ""; p.Conds = []api.Cond{{}} }, api.ErrName},
		"nothing but a name":           {func(p *api.Prod) { *p = api.Prod{Name: "p"} }, api.ErrMany},
		"no condition":                 {func(p *api.Prod) { p.Conds = nil }, api.ErrMany},
		"an empty list of conditions":  {func(p *api.Prod) { p.Conds = []api.Cond{} }, api.ErrMany},
		"too many conditions":          {func(p *api.Prod) { p.Conds = copies(api.MaxConds+1, goal("s")) }, api.ErrMany},
		"far too many conditions":      {func(p *api.Prod) { p.Conds = copies(100000, api.Cond{}) }, api.ErrMany},
		"too many with inner ones":     {func(p *api.Prod) { p.Conds = of(goal("s"), all(copies(api.MaxConds-1, neg("s"))...)).Conds }, api.ErrMany},
		"too many of all depths":       {func(p *api.Prod) { p.Conds = of(all(all(copies(7, goal("s"))...)), all(copies(7, goal("s"))...)).Conds }, api.ErrMany},
		"too many within a Pos":        {func(p *api.Prod) { p.Conds[0].Conds = copies(api.MaxConds, goal("s")) }, api.ErrMany},
		"no action":                    {func(p *api.Prod) { p.Acts = nil }, api.ErrMany},
		"an empty list of actions":     {func(p *api.Prod) { p.Acts = []api.Act{} }, api.ErrMany},
		"too many actions":             {func(p *api.Prod) { p.Acts = copies(api.MaxActs+1, p.Acts[0]) }, api.ErrMany},
		"too many and a bad condition": {func(p *api.Prod) { p.Conds[0] = api.Cond{}; p.Acts = copies(api.MaxActs+1, api.Act{}) }, api.ErrMany},
	} {
		p := right
		p.Conds, p.Acts = append([]api.Cond(nil), right.Conds...), append([]api.Act(nil), right.Acts...)
		c.change(&p)
		expectWrong(t, what, p, -1, c.want)
	}
}

// changed is a condition to which one thing was done.
func changed(c api.Cond, change func(c *api.Cond)) api.Cond {
	change(&c)
	return c
}

// wrongs answers conditions that are wrong by themselves, with their errors.
func wrongs() map[string]struct {
	c api.Cond
	e api.Errno
} {
	type row = struct {
		c api.Cond
		e api.Errno
	}
	right, many := pos("s"), copies(api.MaxTests+1, is(api.Eq, N(1)))
	inner := all(neg("s"))
	return map[string]row{
		"nothing":                        {api.Cond{}, api.ErrForm},
		"kind 0":                         {changed(right, func(c *api.Cond) { c.Kind = 0 }), api.ErrForm},
		"kind -1":                        {changed(right, func(c *api.Cond) { c.Kind = -1 }), api.ErrForm},
		"kind 4":                         {changed(right, func(c *api.Cond) { c.Kind = 4 }), api.ErrForm},
		"kind 4 with inner ones":         {changed(inner, func(c *api.Cond) { c.Kind = 4 }), api.ErrForm},
		"no Id":                          {pos(""), api.ErrForm},
		"no Id, a Neg":                   {neg(""), api.ErrForm},
		"an Id that is no name":          {pos("S1"), api.ErrForm},
		"too long an Id":                 {pos(longest + "x"), api.ErrForm},
		"no Attr":                        {changed(right, func(c *api.Cond) { c.Attr = nil }), api.ErrForm},
		"an empty Attr, a Neg":           {changed(neg("s"), func(c *api.Cond) { c.Attr = []api.Test{} }), api.ErrForm},
		"a Pos with inner ones":          {changed(right, func(c *api.Cond) { c.Conds = []api.Cond{pos("s")} }), api.ErrForm},
		"a Neg with inner ones":          {changed(neg("s"), func(c *api.Cond) { c.Conds = []api.Cond{pos("s")} }), api.ErrForm},
		"a Pos with wrong inner ones":    {changed(right, func(c *api.Cond) { c.Conds = []api.Cond{{}} }), api.ErrForm},
		"many tests of Attr":             {changed(right, func(c *api.Cond) { c.Attr = many }), api.ErrMany},
		"many tests of Value":            {pos("s", many...), api.ErrMany},
		"many tests of Value, a Neg":     {neg("s", many...), api.ErrMany},
		"many tests and a wrong one":     {pos("s", append([]api.Test{{}}, many...)...), api.ErrMany},
		"many of Value, wrong in Attr":   {changed(pos("s", many...), func(c *api.Cond) { c.Attr = []api.Test{{}} }), api.ErrMany},
		"many tests and no Id":           {pos("", many...), api.ErrForm},
		"many of Value and no Attr":      {changed(pos("s", many...), func(c *api.Cond) { c.Attr = nil }), api.ErrForm},
		"many tests and inner ones":      {changed(pos("s", many...), func(c *api.Cond) { c.Conds = inner.Conds }), api.ErrForm},
		"an All of none":                 {all(), api.ErrForm},
		"an All of an empty list":        {all([]api.Cond{}...), api.ErrForm},
		"an All with Goal":               {changed(inner, func(c *api.Cond) { c.Goal = true }), api.ErrForm},
		"an All with an Id":              {changed(inner, func(c *api.Cond) { c.Id = "s" }), api.ErrForm},
		"an All with an Id, no name":     {changed(inner, func(c *api.Cond) { c.Id = " " }), api.ErrForm},
		"an All with Attr":               {changed(inner, func(c *api.Cond) { c.Attr = right.Attr }), api.ErrForm},
		"an All with Value":              {changed(inner, func(c *api.Cond) { c.Value = right.Attr }), api.ErrForm},
		"an All with too much Value":     {changed(inner, func(c *api.Cond) { c.Value = many }), api.ErrForm},
		"an All with Acc":                {changed(inner, func(c *api.Cond) { c.Acc = true }), api.ErrForm},
		"an All with Goal, of wrong one": {changed(all(api.Cond{}), func(c *api.Cond) { c.Goal = true }), api.ErrForm},
	}
}

func TestWrongConditions(t *testing.T) {
	for what, w := range wrongs() {
		expectWrong(t, what, of(w.c), 0, w.e)
		expectWrong(t, what+", the second", of(goal("s"), w.c), 1, w.e)
		expectWrong(t, what+", behind an All", of(goal("s"), all(pos("s"), neg("s")), w.c, goal("s")), 4, w.e)
		expectWrong(t, what+", within an All", of(goal("s"), all(pos("s"), all(neg("s"), w.c), neg("s")), goal("s")), 5, w.e)
		expectWrong(t, what+", behind wrong ones within", of(goal("s"), all(pos("s"), neg("")), w.c), 3, api.ErrForm)
		expectWrong(t, what+", with a wrong action", prod([]api.Cond{goal("s"), w.c}, api.Act{}), 1, w.e)
		expectWrong(t, what+", behind an unknown variable", of(goal("s"), pos("t"), w.c), 2, w.e)
	}
}

func TestAlike(t *testing.T) {
	empty := []api.Test{}
	c := changed(all(neg("s")), func(c *api.Cond) { c.Attr, c.Value = empty, empty })
	expectShape(t, "an All with empty lists", of(c), -1, api.OK)
	c = changed(pos("s"), func(c *api.Cond) { c.Value, c.Conds, c.Acc, c.Goal = empty, []api.Cond{}, true, true })
	c.Attr[0].List = []api.Sym{}
	expectShape(t, "a Pos with empty lists", of(c), -1, api.OK)
	c.Attr, c.Kind = copies(api.MaxTests, to(api.Eq, "z")), api.Neg
	c.Value = c.Attr
	expectShape(t, "as many tests as may be", of(c), -1, api.OK)
}

func TestNest(t *testing.T) {
	deep := all(all(all(all(neg("s")))))
	expectWrong(t, "an All within 3", of(goal("s"), deep), 4, api.ErrNest)
	expectWrong(t, "the first condition", of(deep), 3, api.ErrNest)
	expectWrong(t, "Alls within 4", of(goal("s"), all(deep)), 4, api.ErrNest)
	expectWrong(t, "behind others", of(goal("s"), all(pos("s"), all(pos("s"), all(pos("s"), all(pos("s")), api.Cond{})))), 7, api.ErrNest)
	expectWrong(t, "a wrong one before it", of(goal("s"), all(pos("s"), all(api.Cond{}, all(pos("s"), all(pos("s")))))), 4, api.ErrForm)
	expectWrong(t, "a wrong one behind it", of(goal("s"), deep, api.Cond{}), 4, api.ErrNest)
	expectWrong(t, "wrong ones within it", of(goal("s"), all(all(all(all(api.Cond{}))))), 4, api.ErrNest)
	expectWrong(t, "an All of none within 3", of(goal("s"), all(all(all(all())))), 4, api.ErrForm)
	marked := changed(all(neg("s")), func(c *api.Cond) { c.Goal = true })
	expectWrong(t, "an All with Goal within 3", of(goal("s"), all(all(all(marked)))), 4, api.ErrForm)
	expectWrong(t, "a wrong action, too", prod([]api.Cond{goal("s"), deep}, api.Act{}), 4, api.ErrNest)
}

// rightTests and wrongTests answer single tests.
func rightTests() []api.Test {
	l := []api.Test{in(W("a")), in(N(0), W("b"), W("b"), N(-5)), in(copies(api.MaxList, W(longest))...), in(N(api.MaxInt), N(-api.MaxInt))}
	for _, rel := range []int{api.Eq, api.Ne, api.Lt, api.Le, api.Gt, api.Ge, api.Same} {
		l = append(l, to(rel, "s"), to(rel, longest), is(rel, W("a")), is(rel, W(longest)), is(rel, N(0)), is(rel, N(-api.MaxInt)), is(rel, N(api.MaxInt)))
	}
	return l
}

// noConsts answers symbols that are no valid constants.
func noConsts() []api.Sym {
	return []api.Sym{
		{}, I("S", 1), I("s", 1), I("S", 0), W(""), W("A"), W("a b"), W(longest + "x"), N(api.MaxInt + 1), N(-api.MaxInt - 1),
		{Kind: api.Int, Text: "a"}, {Kind: api.Str, Text: "a", N: 1}, {Kind: 4, Text: "a"}, {Kind: -1, N: 1}, {Text: "a"}, {N: 1},
	}
}

func wrongTests() []api.Test {
	l := []api.Test{
		{}, in(), {Rel: api.In, List: []api.Sym{}}, in(copies(api.MaxList+1, W("a"))...), in(copies(50, api.Sym{})...),
		{Rel: api.In, Var: "s"}, {Rel: api.In, Var: "s", List: []api.Sym{W("a")}}, {Rel: api.In, Sym: W("a")}, {Rel: api.In, Sym: W("a"), List: []api.Sym{W("a")}},
	}
	for _, s := range noConsts() {
		l = append(l, in(s), in(W("a"), s), in(s, W("a")))
		if s != (api.Sym{}) {
			l = append(l, api.Test{Rel: api.In, Sym: s, List: []api.Sym{W("a")}})
		}
	}
	for rel := -1; rel <= 9; rel++ {
		if rel < api.Eq || rel > api.In {
			l = append(l, to(rel, "s"), is(rel, W("a")), api.Test{Rel: rel, List: []api.Sym{W("a")}})
		}
		if rel == api.In {
			continue
		}
		l = append(l, to(rel, "S"), to(rel, " "), to(rel, longest+"x"), api.Test{Rel: rel, Var: "s", Sym: W("a")}, api.Test{Rel: rel, Var: "s", Sym: api.Sym{N: 1}},
			api.Test{Rel: rel, Var: "s", List: []api.Sym{W("a")}}, api.Test{Rel: rel, Sym: W("a"), List: []api.Sym{W("a")}}, api.Test{Rel: rel, Sym: W("a"), List: []api.Sym{{}}})
		for _, s := range noConsts() {
			l = append(l, is(rel, s))
		}
	}
	return l
}

func TestTests(t *testing.T) {
	fine := is(api.Ne, N(7))
	for _, x := range rightTests() {
		what := fmt.Sprint(x)
		for _, kind := range []int{api.Pos, api.Neg} {
			expectShape(t, what+" of Attr", of(goal("s"), api.Cond{Kind: kind, Id: "s", Attr: []api.Test{x, fine}}), -1, api.OK)
			expectShape(t, what+" of Value", of(goal("s"), api.Cond{Kind: kind, Id: "s", Attr: []api.Test{fine}, Value: []api.Test{x, x, x, x}}), -1, api.OK)
		}
	}
	for _, x := range wrongTests() {
		what := fmt.Sprint(x)
		for _, kind := range []int{api.Pos, api.Neg} {
			expectWrong(t, what+" of Attr", of(goal("s"), api.Cond{Kind: kind, Id: "s", Attr: []api.Test{x}}), 1, api.ErrForm)
			expectWrong(t, what+" last of Attr", of(goal("s"), api.Cond{Kind: kind, Id: "s", Attr: []api.Test{fine, fine, fine, x}}), 1, api.ErrForm)
			expectWrong(t, what+" of Value", of(goal("s"), api.Cond{Kind: kind, Id: "s", Attr: []api.Test{fine}, Value: []api.Test{x, fine}}), 1, api.ErrForm)
			expectWrong(t, what+" last of Value", of(goal("s"), api.Cond{Kind: kind, Id: "s", Attr: []api.Test{fine}, Value: []api.Test{fine, fine, fine, x}}), 1, api.ErrForm)
		}
	}
}

// term is an action with this value.
func term(op int, a, b api.Atom) api.Act {
	x := act("s", a)
	x.Value.Op, x.Value.B = op, b
	return x
}

// pref is an action with this preference.
func pref(kind int, other api.Atom) api.Act {
	x := act("s", k(N(1)))
	x.Pref, x.Other = kind, other
	return x
}

// attr is an action about this attribute.
func attr(a api.Atom) api.Act {
	x := act("s", k(N(1)))
	x.Attr = a
	return x
}

// rightAtoms and wrongAtoms answer single atoms; nothing is wrong, too.
func rightAtoms() []api.Atom {
	return []api.Atom{v("a"), v(longest), k(W("a")), k(W(longest)), k(N(0)), k(N(api.MaxInt)), k(N(-api.MaxInt))}
}

func wrongAtoms() []api.Atom {
	l := []api.Atom{v("A"), v(" "), v(longest + "x"), {Var: "a", Sym: W("a")}, {Var: "a", Sym: api.Sym{N: 1}}}
	for _, s := range noConsts() {
		l = append(l, k(s))
	}
	return l
}

func TestRightActions(t *testing.T) {
	var l []api.Act
	for _, a := range rightAtoms() {
		l = append(l, attr(a), act("s", a), act(longest, a))
		for kind := api.Better; kind <= api.Alike; kind++ {
			l = append(l, pref(kind, a))
		}
		for op := api.Add; op <= api.Mul; op++ {
			if a.Sym.Kind != api.Str {
				l = append(l, term(op, a, k(N(2))), term(op, v("b"), a))
			}
		}
	}
	for kind := api.Accept; kind <= api.Indiff; kind++ {
		l = append(l, pref(kind, api.Atom{}))
	}
	for _, a := range l {
		expectShape(t, fmt.Sprint(a), doing(a), -1, api.OK)
	}
}

func wrongActions() []api.Act {
	l := []api.Act{{}, act("", k(N(1))), act("S1", k(N(1))), act(longest+"x", k(N(1)))}
	for _, a := range wrongAtoms() {
		l = append(l, attr(a), act("s", a), term(api.Add, a, k(N(1))), term(api.Sub, k(N(1)), a), term(api.Mul, v("a"), a), pref(api.Better, a), pref(api.Worse, a), pref(api.Alike, a))
		if a != (api.Atom{}) {
			l = append(l, term(api.Plain, v("a"), a), pref(api.Accept, a), pref(api.Indiff, a))
		}
	}
	for _, a := range rightAtoms() {
		l = append(l, term(api.Plain, k(N(1)), a), term(-1, k(N(1)), a), term(4, k(N(1)), a))
		for kind := api.Accept; kind <= api.Indiff; kind++ {
			l = append(l, pref(kind, a))
		}
	}
	for op := api.Add; op <= api.Mul; op++ {
		l = append(l, term(op, k(W("a")), k(N(1))), term(op, k(N(1)), k(W("a"))), term(op, v("a"), k(W("a"))))
	}
	for _, op := range []int{-1, 4} {
		l = append(l, term(op, k(N(1)), api.Atom{}))
	}
	for _, kind := range []int{0, -1, 11} {
		l = append(l, pref(kind, api.Atom{}), pref(kind, k(N(1))))
	}
	return l
}

func TestWrongActions(t *testing.T) {
	fine := act("s", k(N(1)))
	for _, a := range wrongActions() {
		what := fmt.Sprint(a)
		expectWrong(t, what, doing(a), 1, api.ErrForm)
		expectWrong(t, what+", the last", doing(fine, fine, fine, a), 4, api.ErrForm)
		expectWrong(t, what+", behind a wrong one", doing(fine, api.Act{}, a), 2, api.ErrForm)
		expectWrong(t, what+", behind inner conditions", prod([]api.Cond{goal("s"), all(neg("s"), all(neg("s")))}, fine, a), 6, api.ErrForm)
	}
}

// A list that holds itself has no end; it is refused all the same.
func TestEndless(t *testing.T) {
	l := []api.Cond{goal("s"), all(neg("s"))}
	l[1].Conds = l
	expectWrong(t, "a list within itself", prod(l, act("s", k(N(1)))), -1, api.ErrMany)
	l = copies(2, all())
	l[0].Conds, l[1].Conds = l, l
	expectWrong(t, "a list within itself twice", prod(l, act("s", k(N(1)))), -1, api.ErrMany)
}

func TestShapeLeavesItsArgument(t *testing.T) {
	for _, p := range []api.Prod{richest(), of(pos("s")), of(api.Cond{}), {}} {
		before := fmt.Sprintf("%#v", p)
		shape.Shape(p)
		shape.Check(p)
		shape.Vars(p)
		shape.Size(p.Conds)
		for range shape.Each(p.Conds) {
		}
		for range shape.Consts(p) {
		}
		expect(t, "the production", fmt.Sprintf("%#v", p), before)
	}
}
