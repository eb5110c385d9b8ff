package shape_test

import (
	"fmt"
	"regexp"
	"slices"
	"strings"
	"testing"

	"ponder/api"
	"ponder/shape"
)

// steps makes the same numbers below most each time.
func steps(seed uint64) func(most int) int {
	return func(most int) int {
		seed = seed*6364136223846793005 + 1442695040888963407
		return int(seed>>33) % most
	}
}

// maker makes productions of mixed parts; every odd-th part, or so, is not of its form.
type maker struct {
	step func(most int) int
	odd  int
}

func (m maker) isOdd() bool { return m.odd > 0 && m.step(m.odd) == 0 }

// one answers one of l.
func one[T any](m maker, l ...T) T { return l[m.step(len(l))] }

func (m maker) name() string {
	if m.isOdd() {
		return one(m, "", "A", "1", longest+"x")
	}
	return one(m, "a", "b", "c", "d")
}

func (m maker) symbol() api.Sym {
	if m.isOdd() {
		return one(m, noConsts()...)
	}
	return one(m, W("a"), N(0), N(7))
}

func (m maker) atom() api.Atom {
	switch {
	case m.isOdd():
		return api.Atom{Var: m.name(), Sym: m.symbol()}
	case m.step(3) == 0:
		return k(m.symbol())
	}
	return v(m.name())
}

func (m maker) test() api.Test {
	a := m.atom()
	x := api.Test{Rel: one(m, 1, 1, 1, 1, 1, 2, 3, 4, 5, 6, 7), Var: a.Var, Sym: a.Sym}
	if m.step(8) == 0 {
		x = in(m.symbol(), m.symbol())
	}
	if m.isOdd() {
		x.Rel = m.step(11) - 1
	}
	if m.isOdd() {
		x.List = copies(m.step(11), m.symbol())
	}
	return x
}

func (m maker) tests(least int) []api.Test {
	var l []api.Test
	n := least + m.step(3)
	if m.isOdd() {
		n = m.step(7)
	}
	for range n {
		l = append(l, m.test())
	}
	return l
}

func (m maker) cond(depth int) api.Cond {
	c := api.Cond{Kind: one(m, api.Pos, api.Pos, api.Pos, api.Neg, api.All)}
	if c.Kind == api.All && depth > 3 && m.step(5) > 0 {
		c.Kind = api.Neg
	}
	if c.Kind == api.All != m.isOdd() {
		c.Conds = m.conds(depth + 1)
	}
	if c.Kind != api.All || m.isOdd() {
		c.Goal, c.Acc, c.Id, c.Attr, c.Value = m.step(2) == 0, m.step(4) == 0, m.name(), m.tests(1), m.tests(0)
	}
	if m.isOdd() {
		c.Kind = m.step(6) - 1
	}
	return c
}

func (m maker) conds(depth int) []api.Cond {
	var l []api.Cond
	for range 1 + m.step(4) {
		l = append(l, m.cond(depth))
	}
	return l
}

func (m maker) act() api.Act {
	x := api.Act{Id: m.name(), Attr: m.atom(), Value: api.Term{A: m.atom()}, Pref: 1 + m.step(10)}
	if m.step(3) == 0 {
		x.Value = api.Term{Op: 1 + m.step(3), A: m.atom(), B: m.atom()}
	}
	if x.Pref >= api.Better != m.isOdd() {
		x.Other = m.atom()
	}
	if m.isOdd() {
		x.Value.Op, x.Pref = m.step(6)-1, m.step(13)-1
	}
	return x
}

func (m maker) prod() api.Prod {
	p := api.Prod{Name: m.name(), Conds: m.conds(0)}
	if !m.isOdd() && m.step(6) > 0 {
		p.Conds[0] = goal(m.name(), m.tests(0)...)
	}
	for range 1 + m.step(3) {
		p.Acts = append(p.Acts, m.act())
	}
	if m.isOdd() {
		p.Conds, p.Acts = p.Conds[:m.step(len(p.Conds)+1)], p.Acts[:m.step(len(p.Acts)+1)]
	}
	return p
}

// flat is a condition with the counts of those that it is within, the outermost first.
type flat struct {
	api.Cond
	within []int
}

// flatten answers the conditions in l in the order in which they are counted: each is taken from the front of a list, and its inner ones are put there.
func flatten(l []api.Cond) []flat {
	var left, done []flat
	for _, c := range l {
		left = append(left, flat{Cond: c})
	}
	for len(left) > 0 {
		x := left[0]
		var inner []flat
		for _, c := range x.Conds {
			inner = append(inner, flat{c, append(slices.Clone(x.within), len(done))})
		}
		left = append(inner, left[1:]...)
		done = append(done, x)
	}
	return done
}

var (
	wordPattern  = regexp.MustCompile(`^[a-z][a-z0-9_-]{0,31}$`)
	constPattern = regexp.MustCompile(`^(2  (0|-?[1-9][0-9]*)|3 [a-z][a-z0-9_-]{0,31} 0)$`)
)

// nothing tells whether x is the zero value.
func nothing[T comparable](x T) bool { return x == *new(T) }

func isConst(s api.Sym) bool {
	return constPattern.MatchString(fmt.Sprintf("%d %s %d", s.Kind, s.Text, s.N)) && s.N > -1<<31 && s.N < 1<<31
}

func isAtom(a api.Atom) bool {
	return nothing(a.Var) && isConst(a.Sym) || wordPattern.MatchString(a.Var) && nothing(a.Sym)
}

func isTest(t api.Test) bool {
	one := t.Rel >= 1 && t.Rel <= 7 && len(t.List) == 0 && isAtom(api.Atom{Var: t.Var, Sym: t.Sym})
	many := t.Rel == 8 && t.Var == "" && nothing(t.Sym) && len(t.List) >= 1 && len(t.List) <= 8 && !slices.ContainsFunc(t.List, func(s api.Sym) bool { return !isConst(s) })
	return one || many
}

func isAct(a api.Act) bool {
	isWord := func(a api.Atom) bool { return a.Sym.Kind == api.Str }
	sum := a.Value.Op >= 1 && a.Value.Op <= 3 && isAtom(a.Value.B) && !isWord(a.Value.A) && !isWord(a.Value.B)
	plain := a.Value.Op == 0 && nothing(a.Value.B)
	two := a.Pref >= 8 && a.Pref <= 10 && isAtom(a.Other)
	alone := a.Pref >= 1 && a.Pref <= 7 && nothing(a.Other)
	return wordPattern.MatchString(a.Id) && isAtom(a.Attr) && isAtom(a.Value.A) && (sum || plain) && (two || alone)
}

// condFaults answers, in the order in which they are asked, what is wrong with c itself.
func condFaults(c flat) []api.Errno {
	var l []api.Errno
	check := func(wrong bool, e api.Errno) {
		if wrong {
			l = append(l, e)
		}
	}
	isAll := c.Kind == 3
	check(c.Kind < 1 || c.Kind > 3, api.ErrForm)
	check(isAll && (c.Goal || c.Id != "" || len(c.Attr) > 0 || len(c.Value) > 0 || c.Acc || len(c.Conds) == 0), api.ErrForm)
	check(!isAll && (len(c.Conds) > 0 || !wordPattern.MatchString(c.Id) || len(c.Attr) == 0), api.ErrForm)
	check(!isAll && (len(c.Attr) > 4 || len(c.Value) > 4), api.ErrMany)
	check(!isAll && slices.ContainsFunc(append(slices.Clone(c.Attr), c.Value...), func(t api.Test) bool { return !isTest(t) }), api.ErrForm)
	check(isAll && len(c.within) >= 3, api.ErrNest)
	return l
}

// modelShape answers what Shape should.
func modelShape(p api.Prod) (int, api.Errno) {
	l := flatten(p.Conds)
	switch {
	case !wordPattern.MatchString(p.Name):
		return -1, api.ErrName
	case len(l) < 1 || len(l) > 16 || len(p.Acts) < 1 || len(p.Acts) > 16:
		return -1, api.ErrMany
	}
	for i, c := range l {
		if faults := condFaults(c); len(faults) > 0 {
			return i, faults[0]
		}
	}
	for i, a := range p.Acts {
		if !isAct(a) {
			return len(l) + i, api.ErrForm
		}
	}
	return -1, api.OK
}

// mention is where a variable stands: in which part; whether it may become known there; and within which negated conditions that is.
type mention struct {
	name   string
	place  int
	learns bool
	within []int
}

// mentions answers all places where variables must be known or become so, in order.
func mentions(p api.Prod) []mention {
	var l []mention
	conds := flatten(p.Conds)
	for i, c := range conds {
		within := c.within
		if c.Kind == api.Neg {
			within = append(slices.Clone(within), i)
		}
		l = append(l, mention{c.Id, i, c.Goal, within})
		for _, t := range append(slices.Clone(c.Attr), c.Value...) {
			l = append(l, mention{t.Var, i, t.Rel == api.Eq, within})
		}
	}
	for i, a := range p.Acts {
		l = append(l, mention{a.Attr.Var, len(conds) + i, false, nil})
		if a.Value.Op > 0 {
			l = append(l, mention{a.Value.A.Var, len(conds) + i, false, nil}, mention{a.Value.B.Var, len(conds) + i, false, nil})
		}
	}
	return slices.DeleteFunc(l, func(x mention) bool { return x.name == "" })
}

// reaches tells whether what becomes known at x is known at y, which stands behind it: y is within all that x is within.
func (x mention) reaches(y mention) bool {
	return x.learns && x.name == y.name && len(x.within) <= len(y.within) && slices.Equal(x.within, y.within[:len(x.within)])
}

// modelCheck answers what Check and Vars should.
func modelCheck(p api.Prod) (int, api.Errno, []string) {
	if place, e := modelShape(p); e != api.OK {
		return place, e, nil
	}
	if p.Conds[0].Kind != api.Pos {
		return 0, api.ErrForm, nil
	}
	var known []string
	l := mentions(p)
	for i, y := range l {
		if !y.learns && !slices.ContainsFunc(l[:i], func(x mention) bool { return x.reaches(y) }) {
			return y.place, api.ErrVar, nil
		}
		if y.learns && len(y.within) == 0 && !slices.Contains(known, y.name) {
			known = append(known, y.name)
		}
	}
	return -1, api.OK, known
}

// modelConsts answers what Consts should.
func modelConsts(p api.Prod) []api.Sym {
	var l []api.Sym
	for _, c := range flatten(p.Conds) {
		for _, t := range append(slices.Clone(c.Attr), c.Value...) {
			l = append(append(l, t.Sym), t.List...)
		}
	}
	for _, a := range p.Acts {
		l = append(l, a.Attr.Sym, a.Value.A.Sym, a.Value.B.Sym, a.Other.Sym)
	}
	return slices.DeleteFunc(l, func(s api.Sym) bool { return nothing(s) || s.Kind == api.Id })
}

// expectModel holds all that is told of p against the models, and answers Check's error.
func expectModel(t *testing.T, p api.Prod) api.Errno {
	t.Helper()
	place, e := modelShape(p)
	expectShape(t, fmt.Sprintf("%+v", p), p, place, e)
	place, e, known := modelCheck(p)
	expectCheck(t, fmt.Sprintf("%+v", p), p, place, e)
	expect(t, "Vars", strings.Join(shape.Vars(p), " "), strings.Join(known, " "))
	if l := slices.Collect(shape.Consts(p)); !slices.Equal(l, modelConsts(p)) {
		t.Errorf("Consts of %+v: %v", p, l)
	}
	l := flatten(p.Conds)
	expect(t, "Size", shape.Size(p.Conds), len(l))
	n := 0
	for i, c := range shape.Each(p.Conds) {
		expect(t, "count", i, n)
		expect(t, "condition", fmt.Sprintf("%#v", c), fmt.Sprintf("%#v", l[i].Cond))
		n++
	}
	expect(t, "conditions", n, len(l))
	return e
}

func TestManyProductions(t *testing.T) {
	for _, odd := range []int{0, 15, 60, 200} {
		found := map[api.Errno]int{}
		for seed := range uint64(6000) {
			found[expectModel(t, maker{steps(seed), odd}.prod())]++
			if t.Failed() {
				t.FailNow()
			}
		}
		for _, e := range []api.Errno{api.OK, api.ErrVar, api.ErrMany, api.ErrForm, api.ErrNest, api.ErrName} {
			if found[e] < 5 && (odd > 0 || e != api.ErrName) {
				t.Errorf("odd parts 1 of %d: error %d was met %d times", odd, e, found[e])
			}
		}
		t.Log(odd, found)
	}
}
