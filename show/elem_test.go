package show_test

import (
	"iter"
	"slices"
	"strings"
	"testing"

	"ponder/api"
	"ponder/show"
)

func elem(value api.Sym) api.Elem { return api.Elem{Id: I("S", 1), Attr: W("color"), Value: value} }

// some answers elements, and their texts.
func some() ([]api.Elem, string) {
	acceptable := elem(N(-3))
	acceptable.Acc = true
	return []api.Elem{elem(W("red")), acceptable, elem(I("O", 2)), elem(W("red"))},
		"(S1 ^color red) (S1 ^color -3 +) (S1 ^color O2) (S1 ^color red)"
}

func joined(l iter.Seq[string]) string { return strings.Join(slices.Collect(l), " ") }

func TestElem(t *testing.T) {
	for want, e := range map[string]api.Elem{
		"(S1 ^color red)":                   elem(W("red")),
		"(S1 ^color -5)":                    elem(N(-5)),
		"(S1 ^color 0)":                     elem(N(0)),
		"(S1 ^color S1)":                    elem(I("S", 1)),
		"(Z1048576 ^12 A7)":                 {Id: I("Z", api.MaxSeq), Attr: N(12), Value: I("A", 7)},
		"(S1 ^operator O3 +)":               {Id: I("S", 1), Attr: W("operator"), Value: I("O", 3), Acc: true},
		"(S1 ^x y)":                         {Id: I("S", 1), Attr: W("x"), Value: W("y"), Goal: true, Tag: 17},
		"(S1 ^x y +)":                       {Id: I("S", 1), Attr: W("x"), Value: W("y"), Goal: true, Acc: true, Tag: -1},
		"(red ^S1 3)":                       {Id: W("red"), Attr: I("S", 1), Value: N(3)},
		"(S1 ^" + longest + " -2147483647)": {Id: I("S", 1), Attr: W(longest), Value: N(-api.MaxInt)},
		"( ^ )":                             {},
		"( ^  +)":                           {Acc: true, Value: W("")},
		"( ^x )":                            {Id: I("s", 1), Attr: W("x"), Value: N(api.MaxInt + 1)},
	} {
		expect(t, "Elem", show.Elem(e), want)
	}
}

func TestLines(t *testing.T) {
	l, want := some()
	expect(t, "Lines", joined(show.Lines(slices.Values(l))), want)
	for i := range l {
		expect(t, "one line", joined(show.Lines(slices.Values(l[i:i+1]))), show.Elem(l[i]))
	}
	for range show.Lines(slices.Values([]api.Elem{})) {
		t.Error("a line of nothing")
	}
}

func TestLinesAreLeft(t *testing.T) {
	l, want := some()
	told := 0
	lines := show.Lines(func(yield func(api.Elem) bool) {
		for _, e := range l {
			told++
			if !yield(e) {
				return
			}
		}
	})
	for most := 1; most <= len(l); most++ {
		var got []string
		told = 0
		for s := range lines {
			got = append(got, s)
			if len(got) == most {
				break
			}
		}
		expect(t, "left", strings.Join(got, " "), joined(show.Lines(slices.Values(l[:most]))))
		expect(t, "elements asked for", told, most)
	}
	expect(t, "again", joined(lines), want)
	expect(t, "and again", joined(lines), want)
}

func TestLoopsWithinLoops(t *testing.T) {
	lines := show.Lines(slices.Values([]api.Elem{elem(N(1)), elem(N(2))}))
	got := ""
	for s := range lines {
		got += s + "[" + joined(lines) + "]"
		for range lines {
			break
		}
	}
	both := "[(S1 ^color 1) (S1 ^color 2)]"
	expect(t, "loops", got, "(S1 ^color 1)"+both+"(S1 ^color 2)"+both)
}

// A sequence that can't go on is at its end.
func TestPanicOfSequenceEnds(t *testing.T) {
	lines := show.Lines(func(yield func(api.Elem) bool) {
		if yield(elem(N(1))) && yield(elem(N(2))) {
			panic("no more")
		}
		panic("left")
	})
	expect(t, "till the panic", joined(lines), "(S1 ^color 1) (S1 ^color 2)")
	for range lines {
		break
	}
	expect(t, "nothing", joined(show.Lines(nil)), "")
}

func TestPanicOfLoopComesThrough(t *testing.T) {
	l, _ := some()
	n := 0
	caught := func() (what any) {
		defer func() { what = recover() }()
		for range show.Lines(slices.Values(l)) {
			if n++; n == 2 {
				panic("mine")
			}
		}
		return nil
	}()
	expect(t, "panic", caught, any("mine"))
	expect(t, "lines", n, 2)
}
