package read

import (
	"slices"
	"strconv"

	"ponder/api"
	"ponder/lex"
)

// The following functions read what chapter 8's grammar calls so. What they answer where there is a fault means nothing.

// prod reads a production.
func (r *reader) prod() api.Prod {
	r.needWord("sp")
	r.need("{")
	p := api.Prod{Name: r.name(lex.Word)}
	p.Conds = r.conds()
	r.need("-->")
	p.Acts = slices.Concat(several(r.act, r.beginsAct)...)
	r.need("}")
	return p
}

// conds reads one condition or more.
func (r *reader) conds() []api.Cond {
	return slices.Concat(several(r.cond, r.beginsCond)...)
}

func (r *reader) beginsCond() bool { return r.seesSign("(", "-") }

// cond reads a condition of the text, which may stand for several of a production.
func (r *reader) cond() []api.Cond {
	if r.skip("-") {
		return []api.Cond{r.negated()}
	}
	return r.clause()
}

// negated reads what stands behind the `-` of a condition.
func (r *reader) negated() api.Cond {
	if r.skip("{") {
		l := r.conds()
		r.need("}")
		return api.Cond{Kind: api.All, Conds: l}
	}
	l := r.clause()
	if len(l) > 1 || l[0].Kind == api.Neg {
		return api.Cond{Kind: api.All, Conds: l}
	}
	l[0].Kind = api.Neg
	return l[0]
}

// clause reads a variable with its items, each of which is a condition.
func (r *reader) clause() []api.Cond {
	r.need("(")
	goal := r.skipWord("state")
	id := r.name(lex.Var)
	l := several(r.item, r.beginsItem)
	for i := range l {
		l[i].Goal, l[i].Id = goal, id
	}
	r.need(")")
	return l
}

// item reads all of a condition but what its clause says.
func (r *reader) item() api.Cond {
	c := api.Cond{Kind: api.Pos}
	if r.skip("-") {
		c.Kind = api.Neg
	}
	r.need("^")
	c.Attr = r.field()
	if r.beginsField() {
		c.Value = r.field()
	}
	c.Acc = r.skip("+")
	return c
}

func (r *reader) beginsItem() bool { return r.seesSign("-", "^") }

// field reads one test, or several between braces.
func (r *reader) field() []api.Test {
	if !r.skip("{") {
		return []api.Test{r.test()}
	}
	l := several(r.test, r.beginsTest)
	r.need("}")
	return l
}

func (r *reader) beginsField() bool { return r.seesSign("{") || r.beginsTest() }

// test reads a test.
func (r *reader) test() api.Test {
	if r.skip("<<") {
		l := several(r.constant, r.beginsConst)
		r.need(">>")
		return api.Test{Rel: api.In, List: l}
	}
	rel := r.coded(relOf)
	if rel == 0 {
		rel = api.Eq
	}
	a := r.atom()
	return api.Test{Rel: rel, Var: a.Var, Sym: a.Sym}
}

func (r *reader) beginsTest() bool {
	return r.beginsAtom() || r.seesSign("<<") || r.sees(lex.Sign) && relOf(r.next().Text) != 0
}

// atom reads a variable or a constant.
func (r *reader) atom() api.Atom {
	if r.sees(lex.Var) {
		return api.Atom{Var: r.name(lex.Var)}
	}
	return api.Atom{Sym: r.constant()}
}

func (r *reader) beginsAtom() bool { return r.sees(lex.Var) || r.beginsConst() }

// constant reads a word or a number. (That a number is within its bounds is seen to by its token.)
func (r *reader) constant() api.Sym {
	if r.sees(lex.Num) {
		n, _ := strconv.Atoi(r.name(lex.Num))
		return api.Sym{Kind: api.Int, N: n}
	}
	return api.Sym{Kind: api.Str, Text: r.name(lex.Word)}
}

func (r *reader) beginsConst() bool { return r.sees(lex.Word, lex.Num) }

// act reads a variable with its items, each of which is an action.
func (r *reader) act() []api.Act {
	r.need("(")
	id := r.name(lex.Var)
	l := several(r.actItem, r.beginsActItem)
	for i := range l {
		l[i].Id = id
	}
	r.need(")")
	return l
}

func (r *reader) beginsAct() bool { return r.seesSign("(") }

// actItem reads all of an action but its variable.
func (r *reader) actItem() api.Act {
	r.need("^")
	a := api.Act{Attr: r.atom()}
	a.Value = r.term()
	a.Pref, a.Other = r.pref()
	return a
}

func (r *reader) beginsActItem() bool { return r.seesSign("^") }

// term reads an atom, or two of them with what is done with them.
func (r *reader) term() api.Term {
	if !r.skip("(") {
		return api.Term{A: r.atom()}
	}
	t := api.Term{Op: r.coded(opOf)}
	if t.Op == api.Plain {
		r.fail()
	}
	t.A = r.atom()
	t.B = r.atom()
	r.need(")")
	return t
}

// pref reads a preference, which may be left out, and the atom that may follow it.
func (r *reader) pref() (int, api.Atom) {
	kind := r.coded(prefOf)
	if kind == 0 {
		return api.Accept, api.Atom{}
	}
	paired := pairedOf(kind)
	if paired == 0 || !r.beginsAtom() {
		return kind, api.Atom{}
	}
	return paired, r.atom()
}
