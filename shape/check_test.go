package shape_test

import (
	"strings"
	"testing"

	"ponder/api"
	"ponder/shape"
)

// expectCheck holds what Check answers of p; where it does not accept it, Vars answers nothing.
func expectCheck(t *testing.T, what string, p api.Prod, place int, e api.Errno) {
	t.Helper()
	got, err := shape.Check(p)
	if got != place || err != e {
		t.Errorf("Check of %s: got %d, %d, want %d, %d", what, got, err, place, e)
	}
	if l := shape.Vars(p); e != api.OK && len(l) > 0 {
		t.Errorf("Vars of %s: %v", what, l)
	}
}

// expectVars holds that p is accepted, and which variables are known then: `s a b`.
func expectVars(t *testing.T, what string, p api.Prod, want string) {
	t.Helper()
	expectCheck(t, what, p, -1, api.OK)
	expect(t, "Vars of "+what, strings.Join(shape.Vars(p), " "), want)
}

// expectUnknown holds that a variable is not known at this place, though the form is right.
func expectUnknown(t *testing.T, what string, p api.Prod, place int) {
	t.Helper()
	expectShape(t, what, p, -1, api.OK)
	expectCheck(t, what, p, place, api.ErrVar)
}

// fields is a Pos with these tests.
func fields(id string, attr []api.Test, value ...api.Test) api.Cond {
	return api.Cond{Kind: api.Pos, Id: id, Attr: attr, Value: value}
}

func tests(l ...api.Test) []api.Test { return l }

func TestExample(t *testing.T) {
	expectUnknown(t, "(<s> ^x y)", of(pos("s", is(api.Eq, W("y")))), 0)
	expectVars(t, "(state <s> ^x y)", of(goal("s", is(api.Eq, W("y")))), "s")
}

func TestFirstIsPos(t *testing.T) {
	negGoal := neg("s")
	negGoal.Goal = true
	for what, c := range map[string]api.Cond{"a Neg": neg("s"), "a Neg with Goal": negGoal, "an All": all(goal("s"))} {
		p := of(c, goal("s"))
		expectShape(t, what, p, -1, api.OK)
		expectCheck(t, what, p, 0, api.ErrForm)
		expectCheck(t, what+" and unknown variables", of(c, pos("t")), 0, api.ErrForm)
	}
	expectVars(t, "a Pos", of(goal("s"), negGoal, all(goal("s"))), "s")
}

func TestIds(t *testing.T) {
	expectVars(t, "one that is known", of(goal("s", to(api.Eq, "a")), pos("a"), pos("s")), "s a")
	expectUnknown(t, "one that is not", of(goal("s"), pos("a")), 1)
	expectUnknown(t, "one that is known later", of(goal("s"), pos("a"), pos("s", to(api.Eq, "a"))), 1)
	expectUnknown(t, "one that is known by its own value", of(goal("s"), pos("a", to(api.Eq, "a"))), 1)
	expectUnknown(t, "the first one", of(pos("s", to(api.Eq, "s")), goal("s")), 0)
	expectVars(t, "one with Goal", of(goal("s"), goal("t"), pos("t")), "s t")
	expectVars(t, "one with Goal that is known", of(goal("s", to(api.Eq, "t")), goal("t"), goal("s")), "s t")
	expectUnknown(t, "a Neg", of(goal("s"), neg("a")), 1)
	expectUnknown(t, "within an All", of(goal("s"), all(pos("s"), neg("a"))), 3)
}

func TestTestsInOrder(t *testing.T) {
	eq := func(name string) api.Test { return to(api.Eq, name) }
	for rel := api.Ne; rel <= api.Same; rel++ {
		use := func(name string) api.Test { return to(rel, name) }
		expectUnknown(t, "another test", of(goal("s", use("a"))), 0)
		expectUnknown(t, "another test of Attr", of(goal("s"), fields("s", tests(use("a")))), 1)
		expectUnknown(t, "another test ahead of Eq", of(goal("s", use("a"), eq("a"))), 0)
		expectUnknown(t, "another test of Attr, Eq in Value", of(goal("s"), fields("s", tests(use("a")), eq("a"))), 1)
		expectUnknown(t, "another test of Attr ahead of Eq", of(goal("s"), fields("s", tests(use("a"), eq("a")), eq("a"))), 1)
		expectVars(t, "another test behind Eq", of(goal("s", eq("a"), use("a"))), "s a")
		expectVars(t, "Eq in Attr, another test in Value", of(goal("s"), fields("s", tests(eq("a")), use("a"))), "s a")
		expectVars(t, "another test of the Id", of(goal("s", use("s"))), "s")
		expectVars(t, "another test of the Id in Attr", of(goal("s"), fields("s", tests(use("s")))), "s")
		expectVars(t, "another test later", of(goal("s", eq("a")), pos("s", use("a"))), "s a")
		expectUnknown(t, "another test in a Neg", of(goal("s"), neg("s", use("a"))), 1)
		expectVars(t, "a constant", of(goal("s", is(rel, W("a")))), "s")
	}
	expectVars(t, "a list", of(goal("s", in(W("a")))), "s")
	expectVars(t, "Eq of a constant", of(goal("s", is(api.Eq, W("a")))), "s")
}

func TestVars(t *testing.T) {
	eq := func(name string) api.Test { return to(api.Eq, name) }
	expectVars(t, "the order in which they became known", of(
		goal("z", eq("m"), eq("c"), is(api.Eq, N(1)), eq("m")),
		fields("c", tests(eq("b"), eq("z")), eq("a"), eq("b"), eq("y")),
		goal("k", eq("a"), eq("d")),
	), "z m c b a y k d")
	expectVars(t, "one variable", of(goal("s", eq("s")), fields("s", tests(eq("s")), eq("s"))), "s")
	expectVars(t, "without those of actions", prod([]api.Cond{goal("s")}, act("o", v("n")), pref(api.Better, v("m"))), "s")
	expectVars(t, "long names", of(goal(longest, eq(longest[:31]+"x"), eq(longest), eq(longest[:31]))), longest+" "+longest[:31]+"x "+longest[:31])
}

func TestLongNames(t *testing.T) {
	a, b := strings.Repeat("a", 32), strings.Repeat("a", 31)
	expectVars(t, "names that begin alike", of(goal(b, to(api.Eq, a)), pos(a), pos(b)), b+" "+a)
	expectUnknown(t, "the beginning of a known one", of(goal(a), pos(b)), 1)
}

func TestNegScope(t *testing.T) {
	eq := func(name string) api.Test { return to(api.Eq, name) }
	expectVars(t, "known within", of(goal("s"), fieldsNeg("s", tests(eq("a")), eq("b"), to(api.Ne, "a"), to(api.Ne, "b"))), "s")
	expectUnknown(t, "not known behind it", of(goal("s"), neg("s", eq("a")), pos("a")), 2)
	expectUnknown(t, "not known in the next one", of(goal("s"), neg("s", eq("a")), neg("s", to(api.Ne, "a"))), 2)
	expectVars(t, "known before and behind", of(goal("s", eq("a")), neg("s", eq("a")), pos("a")), "s a")
	expectVars(t, "known later, in the later order", of(goal("s"), neg("s", eq("a")), pos("s", eq("b"), eq("a"))), "s b a")
	marked := neg("g", eq("a"))
	marked.Goal = true
	expectVars(t, "the Id of a Goal within", of(goal("s"), marked), "s")
	expectUnknown(t, "the Id of a Goal behind it", of(goal("s"), marked, pos("g")), 2)
	expectUnknown(t, "in an action", prod([]api.Cond{goal("s"), neg("s", eq("a"))}, attr(v("a"))), 2)
}

func fieldsNeg(id string, attr []api.Test, value ...api.Test) api.Cond {
	c := fields(id, attr, value...)
	c.Kind = api.Neg
	return c
}

func TestAllScope(t *testing.T) {
	eq := func(name string) api.Test { return to(api.Eq, name) }
	expectVars(t, "known up to its end", of(goal("s"), all(pos("s", eq("a")), pos("a", eq("b")), neg("b", to(api.Ne, "a")))), "s")
	expectUnknown(t, "not known behind it", of(goal("s"), all(pos("s", eq("a")), pos("a")), pos("a")), 4)
	expectUnknown(t, "not known in the next one", of(goal("s"), all(pos("s", eq("a"))), all(pos("a"))), 4)
	expectVars(t, "an inner All knows it", of(goal("s"), all(pos("s", eq("a")), all(pos("a", eq("b")), all(pos("b"), neg("a"))))), "s")
	expectUnknown(t, "not known behind an inner All", of(goal("s"), all(all(pos("s", eq("a")), pos("a")), pos("a"))), 5)
	expectUnknown(t, "not known behind an inner Neg", of(goal("s"), all(neg("s", eq("a")), pos("a"))), 3)
	expectVars(t, "known in it and behind an inner All", of(goal("s"), all(pos("s", eq("a")), all(neg("a")), pos("a"))), "s")
	expectUnknown(t, "the Id of a Goal behind it", of(goal("s"), all(goal("g"), pos("g")), pos("g")), 4)
	expectVars(t, "known later, in the later order", of(goal("s"), all(pos("s", eq("a"), eq("b"))), pos("s", eq("b"), eq("c"), eq("a"))), "s b c a")
	expectVars(t, "known before", of(goal("s", eq("a")), all(pos("s", eq("a"), eq("c"))), pos("a")), "s a")
	expectUnknown(t, "in an action", prod([]api.Cond{goal("s"), all(pos("s", eq("a")))}, attr(v("a"))), 3)
}

func TestActions(t *testing.T) {
	known := []api.Cond{goal("s", to(api.Eq, "a"), to(api.Eq, "b"))}
	for what, a := range map[string]api.Act{
		"all known":          {Id: "s", Attr: v("a"), Value: api.Term{Op: api.Add, A: v("a"), B: v("b")}, Pref: api.Worse, Other: v("a")},
		"a new Id":           act("n", v("a")),
		"a new Value":        act("s", v("n")),
		"a new Id and Value": act("n", v("n")),
		"a new Other":        pref(api.Alike, v("n")),
		"no variable":        term(api.Mul, k(N(1)), k(N(2))),
		"a sum of one known": term(api.Sub, v("a"), k(N(2))),
	} {
		expectVars(t, what, prod(known, a), "s a b")
	}
	for what, a := range map[string]api.Act{
		"an unknown Attr":         attr(v("n")),
		"an unknown A of a sum":   term(api.Add, v("n"), v("a")),
		"an unknown B of a sum":   term(api.Sub, v("a"), v("n")),
		"an unknown B, A a const": term(api.Mul, k(N(1)), v("n")),
		"an Attr as its Id":       {Id: "n", Attr: v("n"), Value: api.Term{A: v("a")}, Pref: api.Accept},
		"an Attr as its Value":    {Id: "s", Attr: v("n"), Value: api.Term{A: v("n")}, Pref: api.Accept},
	} {
		expectUnknown(t, what, prod(known, a), 1)
		expectUnknown(t, what+", behind others", prod(known, act("s", v("a")), act("n", v("n")), pref(api.Better, v("n")), a, a), 4)
		expectUnknown(t, what+", behind inner conditions", prod([]api.Cond{known[0], all(pos("a"), neg("b"))}, act("n", v("n")), a), 5)
		expectUnknown(t, what+" and an unknown condition", prod([]api.Cond{known[0], all(pos("a"), neg("n"))}, a), 3)
	}
}

func TestVarsAreNew(t *testing.T) {
	p := of(goal("s", to(api.Eq, "a")))
	l := shape.Vars(p)
	for i := range l {
		l[i] = "changed"
	}
	_ = append(l[:1], "more")
	expectVars(t, "the same again", p, "s a")
}
