package shape_test

import (
	"fmt"
	"iter"
	"slices"
	"strconv"
	"strings"
	"testing"

	"ponder/api"
	"ponder/shape"
)

// richest answers a production that has everything, of all depths.
func richest() api.Prod {
	rich := fields("s", tests(is(api.Ne, W("c")), to(api.Eq, "a"), in(N(1), W("d"), N(1))), is(api.Same, N(2)), in(W("e")), to(api.Ne, "a"))
	return prod([]api.Cond{
		goal("s", is(api.Eq, W("b"))),
		all(rich, all(neg("a", is(api.Gt, N(3))), pos("a")), neg("s")),
		pos("s", to(api.Eq, "a"), is(api.Ne, N(4))),
	},
		act("s", v("n")),
		api.Act{Id: "s", Attr: k(W("y")), Value: api.Term{Op: api.Sub, A: k(N(5)), B: k(N(6))}, Pref: api.Worse, Other: k(W("f"))},
		api.Act{Id: "s", Attr: v("a"), Value: api.Term{Op: api.Mul, A: v("a"), B: k(N(7))}, Pref: api.Best},
	)
}

// counted writes conditions as `0P 1A 2N`, and each one's Id.
func counted(l iter.Seq2[int, api.Cond]) string {
	var parts []string
	for i, c := range l {
		parts = append(parts, strconv.Itoa(i)+string("?PNA?"[c.Kind])+c.Id)
	}
	return strings.Join(parts, " ")
}

func TestEach(t *testing.T) {
	odd := pos("o")
	odd.Conds = []api.Cond{neg("p"), {}}
	for want, l := range map[string][]api.Cond{
		"":                                nil,
		"0Ps":                             {goal("s")},
		"0A":                              {all()},
		"0Pa 1Nb 2Pc":                     {pos("a"), neg("b"), pos("c")},
		"0Pa 1A 2Pb 3Nc 4Pd":              {pos("a"), all(pos("b"), neg("c")), pos("d")},
		"0A 1A 2A 3A 4Pa 5Pb 6Pc 7Pd 8Pe": {all(all(all(all(pos("a")), pos("b")), pos("c")), pos("d")), pos("e")},
		"0A 1A 2Pa 3A 4Pb 5A 6Pc":         {all(all(pos("a")), all(pos("b"))), all(pos("c"))},
		"0Po 1Np 2? 3Pa":                  {odd, pos("a")},
		"0Ps 1A 2Ps 3A 4Na 5Pa 6Ns 7Ps":   richest().Conds,
	} {
		expect(t, "Each", counted(shape.Each(l)), want)
		expect(t, "Size", shape.Size(l), len(strings.Fields(want)))
	}
	expect(t, "Each of an empty list", counted(shape.Each([]api.Cond{})), "")
	expect(t, "Size of an empty list", shape.Size([]api.Cond{}), 0)
}

func TestEachTellsWholes(t *testing.T) {
	l := richest().Conds
	inner := l[1].Conds
	want := []api.Cond{l[0], l[1], inner[0], inner[1], inner[1].Conds[0], inner[1].Conds[1], inner[2], l[2]}
	for i, c := range shape.Each(l) {
		expect(t, "condition "+strconv.Itoa(i), fmt.Sprintf("%#v", c), fmt.Sprintf("%#v", want[i]))
	}
}

func TestLoopsAreLeft(t *testing.T) {
	l, p := richest().Conds, richest()
	each, consts := shape.Each(l), shape.Consts(p)
	for most := 1; most <= 8; most++ {
		n := 0
		for i := range each {
			expect(t, "count", i, n)
			if n++; n == most {
				break
			}
		}
		expect(t, "conditions", n, most)
	}
	whole := symbols(consts)
	for most := 1; most <= len(whole); most++ {
		var got []string
		for s := range consts {
			got = append(got, text(s))
			if len(got) == most {
				break
			}
		}
		expect(t, "constants", strings.Join(got, " "), strings.Join(whole[:most], " "))
	}
	expect(t, "Each again", counted(each), counted(shape.Each(l)))
	expect(t, "Consts again", strings.Join(symbols(consts), " "), strings.Join(whole, " "))
}

func TestLoopsWithinLoops(t *testing.T) {
	each := shape.Each([]api.Cond{all(pos("a")), neg("b")})
	got := ""
	for i := range each {
		got += strconv.Itoa(i) + "(" + counted(each) + ")"
	}
	expect(t, "loops", got, "0(0A 1Pa 2Nb)1(0A 1Pa 2Nb)2(0A 1Pa 2Nb)")
}

func TestPanicOfLoopComesThrough(t *testing.T) {
	p := richest()
	for what, loop := range map[string]func(){
		"Each": func() {
			for range shape.Each(p.Conds) {
				panic("mine")
			}
		},
		"Consts": func() {
			for range shape.Consts(p) {
				panic("mine")
			}
		},
	} {
		caught := func() (what any) {
			defer func() { what = recover() }()
			loop()
			return nil
		}()
		expect(t, what, caught, any("mine"))
	}
}

// spoil writes into all that hangs on c, and behind the end of each list.
func spoil(c *api.Cond) {
	for _, l := range []*[]api.Test{&c.Attr, &c.Value} {
		for i := range *l {
			for j := range (*l)[i].List {
				(*l)[i].List[j] = W("spoilt")
			}
			_ = append((*l)[i].List, W("spoilt"), W("spoilt"))
			(*l)[i] = is(api.Eq, W("spoilt"))
		}
		_ = append(*l, is(api.Eq, W("spoilt")), is(api.Eq, W("spoilt")))
	}
	for i := range c.Conds {
		spoil(&c.Conds[i])
		c.Conds[i] = pos("spoilt")
	}
	_ = append(c.Conds, pos("spoilt"), pos("spoilt"))
	*c = pos("spoilt")
}

func TestConditionsAreTheCallers(t *testing.T) {
	l := richest().Conds
	before := fmt.Sprintf("%#v", l)
	each := shape.Each(l)
	var told, kept []string
	var got []api.Cond
	for _, c := range each {
		told = append(told, fmt.Sprintf("%#v", c))
		spoil(&c)
	}
	expect(t, "the argument", fmt.Sprintf("%#v", l), before)
	for _, c := range each {
		got = append(got, c)
	}
	for i := range got {
		kept = append(kept, fmt.Sprintf("%#v", got[i]))
		spoil(&got[i])
	}
	expect(t, "each by itself", strings.Join(kept, "\n"), strings.Join(told, "\n"))
	expect(t, "the argument again", fmt.Sprintf("%#v", l), before)
}

func TestArgumentsAreNotKept(t *testing.T) {
	p := richest()
	each, consts := shape.Each(p.Conds), shape.Consts(p)
	for i := range p.Conds {
		spoil(&p.Conds[i])
	}
	clear(p.Acts)
	expect(t, "Each", counted(each), counted(shape.Each(richest().Conds)))
	expect(t, "Consts", strings.Join(symbols(consts), " "), strings.Join(symbols(shape.Consts(richest())), " "))
}

// What lies behind the end of a list is none of it.
func TestBehindTheEnd(t *testing.T) {
	roomy := func(l ...api.Test) []api.Test { return append(l, is(api.Eq, W("behind")))[:len(l)] }
	list := []api.Sym{N(1), W("behind")}
	c := fields("s", roomy(is(api.Eq, W("x"))), roomy(in(list[:1]...))...)
	c.Goal = true
	inner := []api.Cond{pos("s"), {}, {}}
	conds := []api.Cond{c, all(inner[:1]...), {}, {}}
	acts := []api.Act{act("s", k(N(2))), {}, {}}
	p := prod(conds[:2], acts[:1]...)
	before := fmt.Sprintf("%#v %#v %#v %#v %#v", list, conds, acts, inner, c.Attr[:2])
	expectVars(t, "lists with more room", p, "s")
	expect(t, "Size", shape.Size(p.Conds), 3)
	expect(t, "Each", counted(shape.Each(p.Conds)), "0Ps 1A 2Ps")
	expect(t, "Consts", strings.Join(symbols(shape.Consts(p)), " "), "x 1 x y 2")
	for _, x := range shape.Each(p.Conds) {
		spoil(&x)
	}
	expect(t, "what lies behind", fmt.Sprintf("%#v %#v %#v %#v %#v", list, conds, acts, inner, c.Attr[:2]), before)
}

// text writes a symbol, right or not.
func text(s api.Sym) string {
	if s.Kind == api.Int {
		return strconv.Itoa(s.N)
	}
	return s.Text
}

func symbols(l iter.Seq[api.Sym]) []string {
	var texts []string
	for s := range l {
		texts = append(texts, text(s))
	}
	return texts
}

func TestConsts(t *testing.T) {
	for want, p := range map[string]api.Prod{
		"":                            {},
		"x y 1":                       of(goal("s")),
		"x a y 1":                     of(goal("s", is(api.Eq, W("a")))),
		"x a a x a y 1":               of(goal("s", is(api.Eq, W("a")), is(api.Ne, W("a"))), pos("s", is(api.Lt, W("a")))),
		"x 3 2 3 y 1":                 of(goal("s", in(N(3), N(2), N(3)), to(api.Ne, "s"))),
		"x 0 y 0":                     prod([]api.Cond{goal("s", is(api.Eq, N(0)))}, act("s", k(N(0)))),
		"x x x y 1":                   of(goal("s"), all(neg("s"), all(pos("s")))),
		"x b b a":                     prod([]api.Cond{goal("s")}, api.Act{Id: "s", Attr: k(W("b")), Value: api.Term{A: k(W("b"))}, Pref: api.Better, Other: k(W("a"))}),
		"x 5 -6":                      prod([]api.Cond{goal("s")}, api.Act{Id: "s", Attr: v("s"), Value: api.Term{Op: api.Add, A: k(N(5)), B: k(N(-6))}, Pref: api.Best}),
		"x b c 1 d 1 2 e x 3 x x x 4": {Conds: richest().Conds},
		"y y 5 6 f 7":                 {Acts: richest().Acts},
		"x b c 1 d 1 2 e x 3 x x x 4 y y 5 6 f 7": richest(),
	} {
		expect(t, "Consts", strings.Join(symbols(shape.Consts(p)), " "), want)
	}
}

func TestConstsAreWhole(t *testing.T) {
	p := of(goal("s", in(N(-7), W("a"))))
	if got := slices.Collect(shape.Consts(p)); !slices.Equal(got, []api.Sym{W("x"), N(-7), W("a"), W("y"), N(1)}) {
		t.Errorf("Consts: %v", got)
	}
}

// In a production that is not of its form, too, a symbol is a constant unless it is an identifier, or nothing at all.
func TestConstsOfWrongProductions(t *testing.T) {
	odd := api.Test{Rel: api.Eq, Var: "s", Sym: W("a"), List: []api.Sym{I("L", 1), N(1), {}}}
	c := pos("S", odd, is(99, I("S", 1)), is(0, api.Sym{Kind: 77, Text: "k"}))
	c.Conds = []api.Cond{pos("s", is(api.Eq, N(2)))}
	p := prod([]api.Cond{c}, api.Act{Attr: k(I("A", 1)), Value: api.Term{A: k(W("B")), B: api.Atom{Var: "b", Sym: N(3)}}, Other: k(N(api.MaxInt + 1))}, api.Act{})
	expect(t, "Consts", strings.Join(symbols(shape.Consts(p)), " "), "x a 1 k x 2 B 3 2147483648")
}

// deep answers as many Alls within each other as said.
func deep(levels int) []api.Cond {
	l := []api.Cond{pos("s")}
	for range levels {
		l = []api.Cond{all(l...)}
	}
	return l
}

func TestDeep(t *testing.T) {
	const levels = 1 << 16
	l := deep(levels)
	expect(t, "Size", shape.Size(l), levels+1)
	expect(t, "Consts", strings.Join(symbols(shape.Consts(api.Prod{Conds: l})), " "), "x")
	expectWrong(t, "many levels", prod(l, act("s", k(N(1)))), -1, api.ErrMany)
	for i, c := range shape.Each(l) {
		expect(t, "conditions below the third", shape.Size(c.Conds), levels-i)
		if i == 2 {
			break
		}
	}
	n := 0
	for i := range shape.Each(deep(500)) {
		expect(t, "count", i, n)
		n++
	}
	expect(t, "conditions", n, 501)
}

func TestBroad(t *testing.T) {
	const many = 1 << 16
	l := copies(many, all(pos("a"), neg("b")))
	expect(t, "Size", shape.Size(l), 3*many)
	n := 0
	for i := range shape.Each(l) {
		if i != n {
			t.Fatalf("count %d behind %d", i, n-1)
		}
		n++
	}
	expect(t, "conditions", n, 3*many)
}
