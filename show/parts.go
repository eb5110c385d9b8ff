package show

import (
	"strings"

	"ponder/api"
	"ponder/sym"
)

// Signs, each in the place of the number that it stands for.
var (
	relSigns  = [...]string{api.Eq: "", api.Ne: "<> ", api.Lt: "< ", api.Le: "<= ", api.Gt: "> ", api.Ge: ">= ", api.Same: "<=> "}
	opSigns   = [...]string{api.Add: "+", api.Sub: "-", api.Mul: "*"}
	prefSigns = [...]string{api.Accept: "+", api.Reject: "-", api.Require: "!", api.Prohibit: "~", api.Best: ">", api.Worst: "<", api.Indiff: "=", api.Better: ">", api.Worse: "<", api.Alike: "="}
)

// The following functions write parts that Shape accepts.

// condText writes c with its inner conditions.
func condText(c api.Cond) string {
	switch c.Kind {
	case api.All:
		return "-{" + joined(c.Conds, condText) + "}"
	case api.Neg:
		return "-" + singleText(c)
	}
	return singleText(c)
}

// singleText writes c, a Pos or a Neg, without regard to which of them it is.
func singleText(c api.Cond) string {
	id, value := varText(c.Id), ""
	if c.Goal {
		id = "state " + id
	}
	if len(c.Value) > 0 {
		value = " " + fieldText(c.Value)
	}
	return clauseText(id, fieldText(c.Attr), value, c.Acc)
}

// clauseText writes what conditions and elements have in common; the value brings its blank along.
func clauseText(id, attr, value string, acc bool) string {
	if acc {
		value += " +"
	}
	return "(" + id + " ^" + attr + value + ")"
}

// fieldText writes the tests of a field, of which there is one at least.
func fieldText(l []api.Test) string {
	if len(l) == 1 {
		return testText(l[0])
	}
	return "{ " + joined(l, testText) + " }"
}

// testText writes t.
func testText(t api.Test) string {
	if t.Rel == api.In {
		return "<< " + joined(t.List, sym.Text) + " >>"
	}
	return relSigns[t.Rel] + atomText(api.Atom{Var: t.Var, Sym: t.Sym})
}

// actText writes a.
func actText(a api.Act) string {
	return "(" + varText(a.Id) + " ^" + atomText(a.Attr) + " " + termText(a.Value) + " " + prefText(a.Pref, a.Other) + ")"
}

// termText writes t.
func termText(t api.Term) string {
	if t.Op == api.Plain {
		return atomText(t.A)
	}
	return "(" + opSigns[t.Op] + " " + atomText(t.A) + " " + atomText(t.B) + ")"
}

// prefText writes a preference of this kind, with the other value if it has one.
func prefText(kind int, other api.Atom) string {
	switch kind {
	case api.Better, api.Worse, api.Alike:
		return prefSigns[kind] + " " + atomText(other)
	}
	return prefSigns[kind]
}

// atomText writes a.
func atomText(a api.Atom) string {
	if a.Var != "" {
		return varText(a.Var)
	}
	return sym.Text(a.Sym)
}

// varText writes the variable of this name.
func varText(name string) string {
	return "<" + name + ">"
}

// joined writes what l has, with one blank between.
func joined[T any](l []T, text func(T) string) string {
	var parts []string
	for _, x := range l {
		parts = append(parts, text(x))
	}
	return strings.Join(parts, " ")
}
