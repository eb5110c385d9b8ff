package shape

import (
	"cmp"

	"ponder/api"
	"ponder/order"
)

// variable is the name of a variable that is known, with how many became known before it.
type variable struct {
	name string
	nth  int
}

// Compare goes by the names alone.
func (v variable) Compare(o variable) int {
	return cmp.Compare(v.name, o.name)
}

// scope is the set of the variables that are known at some place.
type scope struct {
	known *order.Set[variable]
}

// newScope makes a scope in which nothing is known.
func newScope() scope {
	return scope{known: order.New[variable]()}
}

// inner makes a scope that begins with what s knows, and from which s learns nothing.
func (s scope) inner() scope {
	return scope{known: s.known.Clone()}
}

// learn makes the variable known from here on, if it is not.
func (s scope) learn(name string) {
	s.known.Put(variable{name: name, nth: s.known.Len()})
}

// knows tells whether the variable is known.
func (s scope) knows(name string) bool {
	_, there := s.known.Get(variable{name: name})
	return there
}

// names answers the variables in the order in which they became known.
func (s scope) names() []string {
	l := make([]string, s.known.Len())
	for v := range s.known.All() {
		l[v.nth] = v.name
	}
	return l
}

// passAll goes through the conditions l, of which the first has the given place. It answers the place behind them, or the place of the first that uses a variable which is not known, and false.
func (s scope) passAll(l []api.Cond, place int) (int, bool) {
	for _, c := range l {
		behind, ok := s.pass(c, place)
		if !ok {
			return behind, false
		}
		place = behind
	}
	return place, true
}

// pass goes through c and its inner conditions, as passAll does. What becomes known in a negated condition is known in an inner scope alone.
func (s scope) pass(c api.Cond, place int) (int, bool) {
	switch c.Kind {
	case api.All:
		return s.inner().passAll(c.Conds, place+1)
	case api.Neg:
		s = s.inner()
	}
	if !s.meet(c) {
		return place, false
	}
	return place + 1, true
}

// meet learns what c, a Pos or a Neg, makes known, and answers false if c uses a variable which is not known.
func (s scope) meet(c api.Cond) bool {
	if c.Goal {
		s.learn(c.Id)
	}
	return s.knows(c.Id) && s.meetTests(c.Attr) && s.meetTests(c.Value)
}

// meetTests does for tests what meet does for a condition.
func (s scope) meetTests(l []api.Test) bool {
	for _, t := range l {
		if t.Rel == api.Eq && t.Var != "" {
			s.learn(t.Var)
		}
		if !s.allows(t.Var) {
			return false
		}
	}
	return true
}

// suffices tells whether all is known that a needs. (Other variables of an action, if they are not known, are new ones.)
func (s scope) suffices(a api.Act) bool {
	if !s.allows(a.Attr.Var) {
		return false
	}
	return a.Value.Op == api.Plain || s.allows(a.Value.A.Var) && s.allows(a.Value.B.Var)
}

// allows tells whether there is no variable, or one that is known.
func (s scope) allows(name string) bool {
	return name == "" || s.knows(name)
}
