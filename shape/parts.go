package shape

import (
	"ponder/api"
	"ponder/sym"
)

// condError answers what is wrong with c itself, which is within so many other conditions. (All of these are Alls: any other one with inner conditions would have been found wrong before.)
func condError(c api.Cond, within int) api.Errno {
	switch c.Kind {
	case api.Pos, api.Neg:
		return singleError(c)
	case api.All:
		return groupError(c, within)
	}
	return api.ErrForm
}

// singleError answers what is wrong with c, a Pos or a Neg.
func singleError(c api.Cond) api.Errno {
	switch {
	case len(c.Conds) > 0, !sym.Word(c.Id), len(c.Attr) == 0:
		return api.ErrForm
	case len(c.Attr) > api.MaxTests, len(c.Value) > api.MaxTests:
		return api.ErrMany
	case !rightTests(c.Attr), !rightTests(c.Value):
		return api.ErrForm
	}
	return api.OK
}

// groupError answers what is wrong with c, an All that is within so many others.
func groupError(c api.Cond, within int) api.Errno {
	switch {
	case c.Goal, c.Id != "", len(c.Attr) > 0, len(c.Value) > 0, c.Acc, len(c.Conds) == 0:
		return api.ErrForm
	case within >= api.MaxNest:
		return api.ErrNest
	}
	return api.OK
}

// rightTests tells whether all tests of l are of their form.
func rightTests(l []api.Test) bool {
	for _, t := range l {
		if !rightTest(t) {
			return false
		}
	}
	return true
}

// rightTest tells whether t is of its form.
func rightTest(t api.Test) bool {
	switch t.Rel {
	case api.Eq, api.Ne, api.Lt, api.Le, api.Gt, api.Ge, api.Same:
		return len(t.List) == 0 && rightAtom(api.Atom{Var: t.Var, Sym: t.Sym})
	case api.In:
		return t.Var == "" && t.Sym == (api.Sym{}) && rightList(t.List)
	}
	return false
}

// rightList tells whether l may be the list of a test.
func rightList(l []api.Sym) bool {
	if len(l) == 0 || len(l) > api.MaxList {
		return false
	}
	for _, s := range l {
		if !rightConst(s) {
			return false
		}
	}
	return true
}

// rightConst tells whether s is a valid constant.
func rightConst(s api.Sym) bool {
	return s.Kind != api.Id && sym.Valid(s)
}

// rightAtom tells whether a is of its form.
func rightAtom(a api.Atom) bool {
	if a.Var == "" {
		return rightConst(a.Sym)
	}
	return sym.Word(a.Var) && a.Sym == (api.Sym{})
}

// rightAct tells whether a is of its form.
func rightAct(a api.Act) bool {
	return sym.Word(a.Id) && rightAtom(a.Attr) && rightTerm(a.Value) && rightPref(a.Pref, a.Other)
}

// rightTerm tells whether t is of its form.
func rightTerm(t api.Term) bool {
	switch t.Op {
	case api.Plain:
		return rightAtom(t.A) && t.B == (api.Atom{})
	case api.Add, api.Sub, api.Mul:
		return rightOperand(t.A) && rightOperand(t.B)
	}
	return false
}

// rightOperand tells whether a may be counted with: a word may not.
func rightOperand(a api.Atom) bool {
	return rightAtom(a) && a.Sym.Kind != api.Str
}

// rightPref tells whether a preference of this kind may have this other one.
func rightPref(kind int, other api.Atom) bool {
	switch kind {
	case api.Accept, api.Reject, api.Require, api.Prohibit, api.Best, api.Worst, api.Indiff:
		return other == (api.Atom{})
	case api.Better, api.Worse, api.Alike:
		return rightAtom(other)
	}
	return false
}
