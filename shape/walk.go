package shape

import (
	"iter"
	"slices"

	"ponder/api"
)

// spot says where a condition stands: its count, and within how many others it is.
type spot struct {
	count, depth int
}

// spots yields all conditions in l, inner ones included, as they are.
func spots(l []api.Cond) iter.Seq2[spot, api.Cond] {
	return func(yield func(spot, api.Cond) bool) {
		walk(l, spot{}, yield)
	}
}

// walk yields the conditions in l, of which the first stands at s, each one before its inner ones. It answers the count behind them, and false if the loop was left.
func walk(l []api.Cond, s spot, yield func(spot, api.Cond) bool) (int, bool) {
	for _, c := range l {
		if !yield(s, c) {
			return 0, false
		}
		behind, ok := walk(c.Conds, spot{count: s.count + 1, depth: s.depth + 1}, yield)
		if !ok {
			return 0, false
		}
		s.count = behind
	}
	return s.count, true
}

// exceeds tells whether there are more than most conditions in l. It goes no farther than it must.
func exceeds(l []api.Cond, most int) bool {
	for s := range spots(l) {
		if s.count >= most {
			return true
		}
	}
	return false
}

// symbols yields what stands where the conditions and the actions may have a symbol, in order: what stands for none, and identifiers, too.
func symbols(conds []api.Cond, acts []api.Act) iter.Seq[api.Sym] {
	return func(yield func(api.Sym) bool) {
		for _, c := range spots(conds) {
			if !yieldTests(c.Attr, yield) || !yieldTests(c.Value, yield) {
				return
			}
		}
		for _, a := range acts {
			for _, x := range [...]api.Atom{a.Attr, a.Value.A, a.Value.B, a.Other} {
				if !yield(x.Sym) {
					return
				}
			}
		}
	}
}

// yieldTests yields the symbols of the tests l, and answers false if the loop was left.
func yieldTests(l []api.Test, yield func(api.Sym) bool) bool {
	for _, t := range l {
		if !yield(t.Sym) {
			return false
		}
		for _, s := range t.List {
			if !yield(s) {
				return false
			}
		}
	}
	return true
}

// copyConds makes a list that shares no memory with l.
func copyConds(l []api.Cond) []api.Cond {
	own := slices.Clone(l)
	for i, c := range own {
		own[i] = copyCond(c)
	}
	return own
}

// copyCond makes a condition that shares no memory with c.
func copyCond(c api.Cond) api.Cond {
	c.Attr, c.Value, c.Conds = copyTests(c.Attr), copyTests(c.Value), copyConds(c.Conds)
	return c
}

// copyTests makes a list that shares no memory with l.
func copyTests(l []api.Test) []api.Test {
	own := slices.Clone(l)
	for i, t := range own {
		own[i].List = slices.Clone(t.List)
	}
	return own
}
