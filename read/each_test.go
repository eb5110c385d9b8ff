package read_test

import (
	"fmt"
	"reflect"
	"strings"
	"testing"

	"ponder/api"
	"ponder/read"
)

func TestEach(t *testing.T) {
	for text, want := range map[string]string{
		"":                                   "",
		" # @":                               "",
		simple("a"):                          "a",
		simple("a") + simple("b"):            "a b",
		simple("a") + simple("b") + "sp":     "a b 5",
		simple("a") + "@":                    "a 5",
		"@" + simple("a"):                    "5",
		simple("a") + "}" + simple("b"):      "a 5",
		simple("a") + "sp {b " + simple("c"): "a 5",
		simple("a") + strings.Repeat(" ", api.MaxText):                             "7",
		simple("a") + "sp {b " + tooNested + " --> (<s> ^y 1)}" + simple("c"):      "a 8",
		simple("a") + "sp {b (<s> ^x) --> (<s> ^y (+ a 1))}" + simple("c"):         "a 9",
		simple("a") + "sp {b (<s> ^{ a b c d e }) --> (<s> ^y 1)}" + simple("c"):   "a 7",
		simple("a") + "sp {b (<s> ^{ a b c d e }) --> (<s> ^y 1)" + simple("c"):    "a 5",
		"sp {a (<s> ^{ a b c d e }) --> (<s> ^y 1)} sp {b (<s> ^x) --> (<s> ^y 1)": "7",
	} {
		expect(t, fmt.Sprintf("Each of %q", text), told(read.Each(text)), want)
	}
}

// A loop may be left behind each thing that is yielded, and the sequence may be ranged over again.
func TestEachIsLeft(t *testing.T) {
	l := read.Each(simple("a") + simple("b") + simple("c") + "@")
	whole := strings.Fields("a b c 5")
	for most := 1; most <= len(whole); most++ {
		var got []string
		for p, e := range l {
			got = append(got, p.Name)
			if e != api.OK {
				got[len(got)-1] = fmt.Sprint(int(e))
			}
			if len(got) == most {
				break
			}
		}
		expect(t, "left", strings.Join(got, " "), strings.Join(whole[:most], " "))
	}
	expect(t, "again", told(l), "a b c 5")
	expect(t, "and again", told(l), "a b c 5")
}

func TestLoopsWithinLoops(t *testing.T) {
	l := read.Each(simple("a") + simple("b"))
	got := ""
	for p := range l {
		got += p.Name + "(" + told(l) + ")"
		for range l {
			break
		}
	}
	expect(t, "loops", got, "a(a b)b(a b)")
}

func TestPanicOfLoopComesThrough(t *testing.T) {
	n := 0
	caught := func() (what any) {
		defer func() { what = recover() }()
		for range read.Each(simple("a") + simple("b") + simple("c")) {
			if n++; n == 2 {
				panic("mine")
			}
		}
		return nil
	}()
	expect(t, "panic", caught, any("mine"))
	expect(t, "productions", n, 2)
}

// A text is read no farther than is asked for: what lies behind, productions or long tokens, costs nothing.
func TestEachReadsNoFarther(t *testing.T) {
	begin := simple("a") + simple("b")
	cost := func(text string, most int) float64 {
		l := read.Each(text)
		return testing.AllocsPerRun(20, func() {
			n := 0
			for range l {
				if n++; n == most {
					break
				}
			}
		})
	}
	for _, piece := range []string{simple("c"), "@", "sp ", "(", "-{", " ", "#\n", "<v>"} {
		text := begin + strings.Repeat(piece, (api.MaxText-len(begin))/len(piece))
		expect(t, "one of many", cost(text, 1), cost(begin, 1))
		expect(t, "two of many", cost(text, 2), cost(begin, 2))
	}
	many := strings.Repeat(simple("a"), 500)
	if part, whole := cost(many, 1), cost(many, 1000); whole < 300*part {
		t.Errorf("one production costs %v, 500 cost %v", part, whole)
	}
	expect(t, "a sequence that is not ranged over", testing.AllocsPerRun(20, func() { read.Each(many) }) <= 2, true)
}

// Texts that are nested as deep as a text may be end like any other.
func TestDeepTexts(t *testing.T) {
	const open = "sp {a "
	deep := strings.Repeat("-{", (api.MaxText-len(open))/2)
	expectError(t, open+deep, api.MaxText, api.ErrText)
	expectError(t, open+deep[1:], len(open), api.ErrText)
	expectError(t, open+deep[:len(deep)-1]+"(", api.MaxText, api.ErrText)
	expectError(t, open+deep[:len(deep)-1]+"}", api.MaxText-1, api.ErrText)
	expectError(t, open+strings.Repeat("-", api.MaxText-len(open)), len(open)+1, api.ErrText)
	expectError(t, open+strings.Repeat("(", api.MaxText-len(open)), len(open)+1, api.ErrText)
	const n = 10000
	expectError(t, open+strings.Repeat("-{", n)+"(<s>^x)"+strings.Repeat("}", n)+"-->(<s>^y 1)}", 0, api.ErrMany)
	expectError(t, open+strings.Repeat("-{", n)+"(<s>^x)"+strings.Repeat("}", n+1), len(open)+2*n+7+n, api.ErrText)
}

// scribble writes into each list within x, a pointer, and behind its end.
func scribble(x reflect.Value) {
	switch x.Kind() {
	case reflect.Slice:
		spare := x.Slice(0, x.Cap())
		for i := range spare.Len() {
			scribble(spare.Index(i))
			spare.Index(i).SetZero()
		}
	case reflect.Struct:
		for i := range x.NumField() {
			scribble(x.Field(i))
		}
	}
}

// lists answers the lists within x, as pointers to where they are held.
func lists(x reflect.Value) []reflect.Value {
	var l []reflect.Value
	switch x.Kind() {
	case reflect.Slice:
		l = append(l, x)
		for i := range x.Len() {
			l = append(l, lists(x.Index(i))...)
		}
	case reflect.Struct:
		for i := range x.NumField() {
			l = append(l, lists(x.Field(i))...)
		}
	}
	return l
}

func TestAnswersAreTheCallers(t *testing.T) {
	text := fullText + strings.Replace(fullText, "{a", "{b", 1)
	first, _, _ := read.All(text)
	second, _, _ := read.All(text)
	scribble(reflect.ValueOf(&first).Elem())
	other := full()
	other.Name = "b"
	expect(t, "the second answer", reflect.DeepEqual(second, []api.Prod{full(), other}), true)
	expectRead(t, text, full(), other)
	one, _, _ := read.One(fullText)
	again, _, _ := read.One(fullText)
	scribble(reflect.ValueOf(&one).Elem())
	expect(t, "the second one", reflect.DeepEqual(again, full()), true)
	l := read.Each(fullText)
	for p := range l {
		scribble(reflect.ValueOf(&p).Elem())
	}
	for p := range l {
		expect(t, "a second loop", reflect.DeepEqual(p, full()), true)
	}
}

// What is appended to a list of an answer is seen in no other one.
func TestListsAreApart(t *testing.T) {
	text := fullText + fullText
	l, _, _ := read.All(text)
	for _, x := range lists(reflect.ValueOf(&l).Elem()) {
		if x.Len() > 0 && x.Cap() > x.Len() {
			spare := x.Slice(0, x.Cap())
			for i := x.Len(); i < x.Cap(); i++ {
				scribble(spare.Index(i))
				spare.Index(i).SetZero()
				spare.Index(i).Set(x.Index(0))
			}
		}
	}
	expect(t, "the answer", reflect.DeepEqual(l, []api.Prod{full(), full()}), true)
	p, _, _ := read.One("sp {a (<s> ^{ a b c } ^x ^x) -(<s> ^x { a b c } ^x -^x) -{(<s> ^x << a b c >>)(<s> ^x ^x)} --> (<s> ^y 1 ^y 2 ^y 3)(<s> ^y 1)}")
	want := fmt.Sprintf("%+v", p)
	for _, x := range lists(reflect.ValueOf(&p).Elem()) {
		if x.Len() > 0 {
			reflect.Append(x, x.Index(0))
		}
	}
	expect(t, "the production", fmt.Sprintf("%+v", p), want)
}
