package show_test

import (
	"reflect"
	"strconv"
	"strings"
	"testing"

	"ponder/api"
	"ponder/lex"
	"ponder/shape"
	"ponder/show"
)

// reader reads a text by the grammar of chapter 8, and panics at a token that can not be there. That what it reads is what was written shows that unlike productions have unlike texts.
type reader struct {
	left []lex.Token
}

func (r *reader) take() lex.Token {
	x := r.left[0]
	r.left = r.left[1:]
	return x
}

// next tells whether the next token is one of these, a word or signs.
func (r *reader) next(texts ...string) bool {
	for _, text := range texts {
		if x := r.left[0]; x.Text == text && (x.Kind == lex.Sign || x.Kind == lex.Word) {
			return true
		}
	}
	return false
}

// skip takes the next token if it is this one.
func (r *reader) skip(text string) bool {
	there := r.next(text)
	if there {
		r.take()
	}
	return there
}

func (r *reader) must(text string) {
	if !r.skip(text) {
		panic("no " + text + " at " + strconv.Itoa(r.left[0].At))
	}
}

// kind takes the next token, which must be of this kind.
func (r *reader) kind(kind int) string {
	x := r.take()
	if x.Kind != kind {
		panic("another kind at " + strconv.Itoa(x.At))
	}
	return x.Text
}

func (r *reader) atom() api.Atom {
	switch r.left[0].Kind {
	case lex.Var:
		return v(r.kind(lex.Var))
	case lex.Num:
		n, _ := strconv.Atoi(r.kind(lex.Num))
		return k(N(n))
	}
	return k(W(r.kind(lex.Word)))
}

func (r *reader) test() api.Test {
	if r.skip("<<") {
		var l []api.Sym
		for !r.skip(">>") {
			l = append(l, r.atom().Sym)
		}
		return in(l...)
	}
	rel := api.Eq
	for i, sign := range []string{api.Ne: "<>", api.Lt: "<", api.Le: "<=", api.Gt: ">", api.Ge: ">=", api.Same: "<=>"} {
		if sign != "" && r.skip(sign) {
			rel = i
			break
		}
	}
	a := r.atom()
	return api.Test{Rel: rel, Var: a.Var, Sym: a.Sym}
}

func (r *reader) field() []api.Test {
	if !r.skip("{") {
		return tests(r.test())
	}
	var l []api.Test
	for !r.skip("}") {
		l = append(l, r.test())
	}
	return l
}

func (r *reader) beginsField() bool {
	switch r.left[0].Kind {
	case lex.Var, lex.Word, lex.Num:
		return true
	}
	return r.next("{", "<<", "<>", "<", "<=", ">", ">=", "<=>")
}

func (r *reader) clause() []api.Cond {
	r.must("(")
	state, id := r.skip("state"), r.kind(lex.Var)
	var l []api.Cond
	for first := true; first || !r.next(")"); first = false {
		c := api.Cond{Kind: api.Pos, Goal: state, Id: id}
		if r.skip("-") {
			c.Kind = api.Neg
		}
		r.must("^")
		c.Attr = r.field()
		if r.beginsField() {
			c.Value = r.field()
		}
		c.Acc = r.skip("+")
		l = append(l, c)
	}
	r.must(")")
	return l
}

func (r *reader) cond() []api.Cond {
	switch {
	case !r.skip("-"):
		return r.clause()
	case !r.skip("{"):
		l := r.clause()
		if len(l) == 1 && l[0].Kind == api.Pos {
			return []api.Cond{neg(l[0])}
		}
		return []api.Cond{all(l...)}
	}
	l := r.cond()
	for !r.skip("}") {
		l = append(l, r.cond()...)
	}
	return []api.Cond{all(l...)}
}

func (r *reader) term() api.Term {
	if !r.skip("(") {
		return plain(r.atom())
	}
	var x api.Term
	for i, sign := range []string{api.Add: "+", api.Sub: "-", api.Mul: "*"} {
		if i > 0 && r.skip(sign) {
			x.Op = i
			break
		}
	}
	x.A, x.B = r.atom(), r.atom()
	r.must(")")
	return x
}

func (r *reader) act() api.Act {
	r.must("(")
	a := api.Act{Id: r.kind(lex.Var)}
	r.must("^")
	a.Attr, a.Value = r.atom(), r.term()
	alone := []string{api.Accept: "+", api.Reject: "-", api.Require: "!", api.Prohibit: "~", api.Best: ">", api.Worst: "<", api.Indiff: "="}
	for i, sign := range alone {
		if i > 0 && r.skip(sign) {
			a.Pref = i
			break
		}
	}
	if a.Pref >= api.Best && !r.next(")") {
		a.Pref += api.Better - api.Best
		a.Other = r.atom()
	}
	r.must(")")
	return a
}

func (r *reader) prod() api.Prod {
	r.must("sp")
	r.must("{")
	p := api.Prod{Name: r.kind(lex.Word)}
	for !r.skip("-->") {
		p.Conds = append(p.Conds, r.cond()...)
	}
	for !r.skip("}") {
		p.Acts = append(p.Acts, r.act())
	}
	r.kind(lex.End)
	return p
}

// maker makes productions of mixed parts.
type maker func(most int) int

// steps makes the same numbers below most each time.
func steps(seed uint64) maker {
	return func(most int) int {
		seed = seed*6364136223846793005 + 1442695040888963407
		return int(seed>>33) % most
	}
}

// one answers one of l.
func one[T any](m maker, l ...T) T { return l[m(len(l))] }

// many makes a list of least to most parts.
func many[T any](m maker, least, most int, part func() T) []T {
	var l []T
	for range least + m(most-least+1) {
		l = append(l, part())
	}
	return l
}

func (m maker) name() string { return one(m, "s", "v", "state", "sp", "a-b", longest) }

func (m maker) constant() api.Sym {
	return one(m, W("x"), W("state"), W("sp"), W("s"), W("a--"), W(longest), N(0), N(7), N(-7), N(api.MaxInt), N(-api.MaxInt))
}

func (m maker) atom() api.Atom { return one(m, v(m.name()), k(m.constant())) }

func (m maker) number() api.Atom { return one(m, v(m.name()), k(N(m(5)-2))) }

func (m maker) test() api.Test {
	a := m.atom()
	return one(m, api.Test{Rel: 1 + m(7), Var: a.Var, Sym: a.Sym}, is(api.Eq, W("x")), in(many(m, 1, api.MaxList, m.constant)...))
}

func (m maker) cond(depth int) api.Cond {
	if depth < api.MaxNest && m(3) == 0 {
		return all(many(m, 1, 3, func() api.Cond { return m.cond(depth + 1) })...)
	}
	return api.Cond{
		Kind: one(m, api.Pos, api.Neg), Goal: m(2) == 0, Acc: m(2) == 0, Id: m.name(),
		Attr: many(m, 1, 1+m(api.MaxTests), m.test), Value: many(m, 0, m(api.MaxTests+1), m.test),
	}
}

func (m maker) act() api.Act {
	a := api.Act{Id: m.name(), Attr: m.atom(), Pref: 1 + m(10)}
	a.Value = one(m, plain(m.atom()), api.Term{Op: 1 + m(3), A: m.number(), B: m.number()})
	if a.Pref >= api.Better {
		a.Other = m.atom()
	}
	return a
}

// prod makes a production that Shape accepts.
func (m maker) prod() api.Prod {
	for {
		p := prod(m.name(), many(m, 1, 5, func() api.Cond { return m.cond(0) }), many(m, 1, 4, m.act)...)
		if _, e := shape.Shape(p); e == api.OK {
			return p
		}
	}
}

// laid lays the lines of p out, of which the parts are written one by one.
func laid(p api.Prod) string {
	lines := []string{"sp {" + p.Name}
	for _, c := range p.Conds {
		lines = append(lines, "  "+show.Cond(c))
	}
	lines = append(lines, "-->")
	for _, a := range p.Acts {
		lines = append(lines, "  "+show.Act(a))
	}
	return strings.Join(append(lines, "}", ""), "\n")
}

func TestManyProductions(t *testing.T) {
	texts := map[string]bool{}
	for seed := range uint64(20000) {
		p := steps(seed).prod()
		text := textOf(t, p)
		expect(t, "text", text, laid(p))
		r := reader{left: lex.All(text)}
		if got := r.prod(); !reflect.DeepEqual(got, p) {
			t.Fatalf("%s\nis %+v\nand was read as %+v", text, p, got)
		}
		texts[text] = true
	}
	if len(texts) < 19000 {
		t.Errorf("only %d unlike ones", len(texts))
	}
}

// Two productions that differ in one thing alone have unlike texts.
func TestUnlikeProductions(t *testing.T) {
	base := func() api.Prod {
		return prod("a", []api.Cond{goal(pos("s", to(api.Eq, "v"))), neg(pos("s", in(W("a"), N(1)))), all(pos("v"))}, accept(), act(api.Term{Op: api.Add, A: v("v"), B: k(N(1))}, api.Better, v("w")))
	}
	texts := map[string]string{textOf(t, base()): "the production"}
	for what, change := range map[string]func(p *api.Prod){
		"its name":                 func(p *api.Prod) { p.Name = "b" },
		"one condition less":       func(p *api.Prod) { p.Conds = p.Conds[:2] },
		"one condition more":       func(p *api.Prod) { p.Conds = append(p.Conds, p.Conds[0]) },
		"conditions the other way": func(p *api.Prod) { p.Conds[0], p.Conds[1] = p.Conds[1], p.Conds[0] },
		"no state":                 func(p *api.Prod) { p.Conds[0].Goal = false },
		"an Acc":                   func(p *api.Prod) { p.Conds[0].Acc = true },
		"a Neg for a Pos":          func(p *api.Prod) { p.Conds[0].Kind = api.Neg },
		"a Pos for a Neg":          func(p *api.Prod) { p.Conds[1].Kind = api.Pos },
		"an All of a Neg":          func(p *api.Prod) { p.Conds[1] = all(p.Conds[1]) },
		"an All of a Pos":          func(p *api.Prod) { p.Conds[1].Kind = api.Pos; p.Conds[1] = all(p.Conds[1]) },
		"an All of an All":         func(p *api.Prod) { p.Conds[2] = all(p.Conds[2]) },
		"a Neg for an All":         func(p *api.Prod) { p.Conds[2] = neg(p.Conds[2].Conds[0]) },
		"one more within an All":   func(p *api.Prod) { p.Conds[2].Conds = append(p.Conds[2].Conds, pos("s")) },
		"one behind the All":       func(p *api.Prod) { p.Conds = append(p.Conds, pos("s")) },
		"an All behind the All":    func(p *api.Prod) { p.Conds = append(p.Conds, all(pos("s"))) },
		"another Id":               func(p *api.Prod) { p.Conds[0].Id = "v" },
		"another Attr":             func(p *api.Prod) { p.Conds[0].Attr[0].Sym = W("y") },
		"a number as Attr":         func(p *api.Prod) { p.Conds[0].Attr[0].Sym = N(0) },
		"a test more in Attr":      func(p *api.Prod) { p.Conds[0].Attr = append(p.Conds[0].Attr, p.Conds[0].Value...) },
		"no Value":                 func(p *api.Prod) { p.Conds[0].Value = nil },
		"a test twice":             func(p *api.Prod) { p.Conds[0].Value = copies(2, p.Conds[0].Value[0]) },
		"a word for a variable":    func(p *api.Prod) { p.Conds[0].Value[0] = is(api.Eq, W("v")) },
		"a list of one for it":     func(p *api.Prod) { p.Conds[0].Value[0] = in(W("v")) },
		"another Rel":              func(p *api.Prod) { p.Conds[0].Value[0].Rel = api.Lt },
		"another Rel again":        func(p *api.Prod) { p.Conds[0].Value[0].Rel = api.Le },
		"Same":                     func(p *api.Prod) { p.Conds[0].Value[0].Rel = api.Same },
		"a list the other way":     func(p *api.Prod) { p.Conds[1].Value[0].List = []api.Sym{N(1), W("a")} },
		"a longer list":            func(p *api.Prod) { p.Conds[1].Value[0].List = []api.Sym{W("a"), N(1), N(1)} },
		"two lists":                func(p *api.Prod) { p.Conds[1].Value = tests(in(W("a")), in(N(1))) },
		"one action less":          func(p *api.Prod) { p.Acts = p.Acts[:1] },
		"actions the other way":    func(p *api.Prod) { p.Acts[0], p.Acts[1] = p.Acts[1], p.Acts[0] },
		"an action's Id":           func(p *api.Prod) { p.Acts[0].Id = "v" },
		"an action's Attr":         func(p *api.Prod) { p.Acts[0].Attr = v("y") },
		"an action's Value":        func(p *api.Prod) { p.Acts[0].Value.A = k(W("s")) },
		"a Reject":                 func(p *api.Prod) { p.Acts[0].Pref = api.Reject },
		"a Best":                   func(p *api.Prod) { p.Acts[0].Pref = api.Best },
		"a Better":                 func(p *api.Prod) { p.Acts[0].Pref, p.Acts[0].Other = api.Better, v("s") },
		"a Best for a Better":      func(p *api.Prod) { p.Acts[1].Pref, p.Acts[1].Other = api.Best, api.Atom{} },
		"a Worse for a Better":     func(p *api.Prod) { p.Acts[1].Pref = api.Worse },
		"another Other":            func(p *api.Prod) { p.Acts[1].Other = k(W("w")) },
		"another Op":               func(p *api.Prod) { p.Acts[1].Value.Op = api.Sub },
		"a plain value":            func(p *api.Prod) { p.Acts[1].Value = plain(v("v")) },
		"a sum the other way":      func(p *api.Prod) { p.Acts[1].Value.A, p.Acts[1].Value.B = p.Acts[1].Value.B, p.Acts[1].Value.A },
		"a negative number":        func(p *api.Prod) { p.Acts[1].Value.B = k(N(-1)) },
	} {
		p := base()
		change(&p)
		text := textOf(t, p)
		if other, there := texts[text]; there {
			t.Errorf("%s and %s have the same text:\n%s", what, other, text)
		}
		texts[text] = what
	}
}
