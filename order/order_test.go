package order_test

import (
	"iter"
	"math"
	"slices"
	"strconv"
	"strings"
	"testing"

	"ponder/api"
	"ponder/order"
)

// item has a rank, which Compare asks, and a mark, which tells equal items apart.
type item struct {
	rank int
	mark string
}

func (a item) Compare(b item) int { return a.rank - b.rank }

// text writes items as `1a 2b`.
func text(l iter.Seq[item]) string {
	var parts []string
	for x := range l {
		parts = append(parts, strconv.Itoa(x.rank)+x.mark)
	}
	return strings.Join(parts, " ")
}

// marked makes a set with these ranks, each with the mark.
func marked(mark string, ranks ...int) *order.Set[item] {
	s := order.New[item]()
	for _, r := range ranks {
		s.Put(item{r, mark})
	}
	return s
}

func expect[T comparable](t *testing.T, what string, got, want T) {
	t.Helper()
	if got != want {
		t.Errorf("%s: got %v, want %v", what, got, want)
	}
}

func TestNew(t *testing.T) {
	expect(t, "no values", order.New[item]().Len(), 0)
	expect(t, "nil", order.New([]item(nil)...).Len(), 0)
	expect(t, "one", text(order.New(item{1, "a"}).All()), "1a")
	l := []item{{3, "a"}, {1, "b"}, {3, "c"}, {2, "d"}, {1, "e"}}
	given := append([]item(nil), l...)
	s := order.New(l[:4]...)
	expect(t, "of equal ones the first", text(s.All()), "1b 2d 3a")
	if !slices.Equal(l, given) {
		t.Errorf("New changed its argument: %v", l)
	}
	l[0], l[1] = item{9, "x"}, item{8, "y"}
	expect(t, "argument changed later", text(s.All()), "1b 2d 3a")
}

func TestPutKeepsMember(t *testing.T) {
	s := order.New[item]()
	expect(t, "Put into an empty set", s.Put(item{5, "a"}), true)
	expect(t, "Put of an equal one", s.Put(item{5, "b"}), false)
	expect(t, "the member stays", text(s.All()), "5a")
	expect(t, "Put in front", s.Put(item{-5, "c"}), true)
	expect(t, "Put behind", s.Put(item{6, "d"}), true)
	expect(t, "Put between", s.Put(item{0, "e"}), true)
	expect(t, "all", text(s.All()), "-5c 0e 5a 6d")
	expect(t, "Len", s.Len(), 4)
}

func TestDrop(t *testing.T) {
	s := marked("a", 1, 2, 3, 4, 5)
	expect(t, "Drop from an empty set", order.New[item]().Drop(item{1, ""}), false)
	expect(t, "Drop of none, below", s.Drop(item{0, ""}), false)
	expect(t, "Drop of none, above", s.Drop(item{6, ""}), false)
	expect(t, "nothing dropped", s.Len(), 5)
	expect(t, "Drop by rank", s.Drop(item{3, "other"}), true)
	expect(t, "Drop again", s.Drop(item{3, "a"}), false)
	expect(t, "without 3", text(s.All()), "1a 2a 4a 5a")
	expect(t, "Drop of the first", s.Drop(item{1, ""}), true)
	expect(t, "Drop of the last", s.Drop(item{5, ""}), true)
	expect(t, "without the ends", text(s.All()), "2a 4a")
	expect(t, "Put after Drop", s.Put(item{3, "b"}), true)
	expect(t, "with another 3", text(s.All()), "2a 3b 4a")
	for _, r := range []int{4, 2, 3} {
		expect(t, "Drop of all", s.Drop(item{r, ""}), true)
	}
	expect(t, "empty", s.Len(), 0)
}

func TestGetAndPlace(t *testing.T) {
	s := marked("a", 10, 20, 30)
	for _, c := range []struct {
		rank, place int
		there       bool
	}{{-1, 0, false}, {10, 0, true}, {15, 1, false}, {20, 1, true}, {25, 2, false}, {30, 2, true}, {99, 3, false}} {
		what := strconv.Itoa(c.rank)
		want := item{}
		if c.there {
			want = item{c.rank, "a"}
		}
		x, ok := s.Get(item{c.rank, "asked"})
		expect(t, "Get "+what, x, want)
		expect(t, "Get there "+what, ok, c.there)
		place, there := s.Place(item{c.rank, "asked"})
		expect(t, "Place "+what, place, c.place)
		expect(t, "Place there "+what, there, c.there)
	}
	place, there := order.New[item]().Place(item{1, ""})
	expect(t, "Place in an empty set", place, 0)
	expect(t, "there in an empty set", there, false)
	x, ok := order.New[item]().Get(item{1, "asked"})
	expect(t, "Get from an empty set", x, item{})
	expect(t, "ok from an empty set", ok, false)
}

func TestAt(t *testing.T) {
	s := marked("a", 7, 5, 6)
	for i, r := range []int{5, 6, 7} {
		x, ok := s.At(i)
		expect(t, "At", x, item{r, "a"})
		expect(t, "At is there", ok, true)
	}
	for _, i := range []int{-1, 3, 4, math.MaxInt, math.MinInt} {
		x, ok := s.At(i)
		expect(t, "At nothing", x, item{})
		expect(t, "At is not there", ok, false)
	}
	_, ok := order.New[item]().At(0)
	expect(t, "At of an empty set", ok, false)
}

func TestExample(t *testing.T) {
	s1, s2 := api.Sym{Kind: api.Id, Text: "S", N: 1}, api.Sym{Kind: api.Id, Text: "S", N: 2}
	s := order.New(s2, s1, s2)
	expect(t, "Len", s.Len(), 2)
	x, ok := s.At(0)
	expect(t, "At(0)", x, s1)
	expect(t, "At(0) is there", ok, true)
}

func TestSequences(t *testing.T) {
	s := marked("a", 2, 4, 6, 8)
	for _, c := range []struct {
		what string
		seq  iter.Seq[item]
		want string
	}{
		{"All", s.All(), "2a 4a 6a 8a"},
		{"Back", s.Back(), "8a 6a 4a 2a"},
		{"From a member", s.From(item{4, "asked"}), "4a 6a 8a"},
		{"From between", s.From(item{5, ""}), "6a 8a"},
		{"From below all", s.From(item{-1, ""}), "2a 4a 6a 8a"},
		{"From the first", s.From(item{2, ""}), "2a 4a 6a 8a"},
		{"From the last", s.From(item{8, ""}), "8a"},
		{"From above all", s.From(item{9, ""}), ""},
		{"All of none", order.New[item]().All(), ""},
		{"Back of none", order.New[item]().Back(), ""},
		{"From of none", order.New[item]().From(item{0, ""}), ""},
	} {
		expect(t, c.what, text(c.seq), c.want)
		expect(t, c.what+" again", text(c.seq), c.want)
	}
}

// first makes a sequence of the first n values of l.
func first(l iter.Seq[item], n int) iter.Seq[item] {
	return func(yield func(item) bool) {
		left := n
		if left == 0 {
			return
		}
		for x := range l {
			left--
			if !yield(x) || left == 0 {
				return
			}
		}
	}
}

func TestSequencesAreLeft(t *testing.T) {
	s := marked("a", 1, 2, 3, 4, 5, 6, 7)
	rising, falling := strings.Fields(text(s.All())), strings.Fields(text(s.Back()))
	for n := range 8 {
		expect(t, "All left", text(first(s.All(), n)), strings.Join(rising[:n], " "))
		expect(t, "Back left", text(first(s.Back(), n)), strings.Join(falling[:n], " "))
		for r := 1; r+n <= 8; r++ {
			expect(t, "From left", text(first(s.From(item{r, ""}), n)), strings.Join(rising[r-1:r-1+n], " "))
		}
	}
}

// spans names the sequences of a set that has the members 1, 3 and 5 when they are ranged over.
func spans(s *order.Set[item]) map[string]iter.Seq[item] {
	return map[string]iter.Seq[item]{"All": s.All(), "From": s.From(item{1, ""}), "Back": s.Back()}
}

func TestChangesInLoopAreNotSeen(t *testing.T) {
	for name := range spans(order.New[item]()) {
		s := marked("a", 1, 3, 5)
		seen := 0
		for x := range spans(s)[name] {
			expect(t, name+" rank", x.rank%2, 1)
			expect(t, name+" mark", x.mark, "a")
			seen++
			for _, r := range []int{1, 3, 5} {
				s.Drop(item{r, ""})
			}
			for _, r := range []int{0, 2, 3, 4, 6} {
				s.Put(item{r, "new"})
			}
		}
		expect(t, name+" yields", seen, 3)
		expect(t, name+" leaves", text(s.All()), "0new 2new 3new 4new 6new")
	}
}

func TestChangesBetweenLoopsAreSeen(t *testing.T) {
	s := order.New[item]()
	all := spans(s)
	for _, r := range []int{5, 3, 1} {
		s.Put(item{r, "a"})
	}
	expect(t, "All", text(all["All"]), "1a 3a 5a")
	expect(t, "From", text(all["From"]), "1a 3a 5a")
	expect(t, "Back", text(all["Back"]), "5a 3a 1a")
	s.Put(item{0, "b"})
	s.Drop(item{3, ""})
	expect(t, "All later", text(all["All"]), "0b 1a 5a")
	expect(t, "From later", text(all["From"]), "1a 5a")
	expect(t, "Back later", text(all["Back"]), "5a 1a 0b")
}

func TestLoopsWithinLoops(t *testing.T) {
	s := marked("a", 1, 2, 3)
	got := ""
	for x := range s.All() {
		s.Put(item{x.rank + 10, "b"})
		for y := range s.Back() {
			got += strconv.Itoa(y.rank) + " "
		}
		got += "| "
	}
	expect(t, "loops", got, "11 3 2 1 | 12 11 3 2 1 | 13 12 11 3 2 1 | ")
}

func TestWholeSets(t *testing.T) {
	none, a, b := order.New[item](), marked("a", 1, 2, 3, 4), marked("b", 0, 2, 4, 6)
	for _, c := range []struct {
		what string
		got  *order.Set[item]
		want string
	}{
		{"Union", order.Union(a, b), "0b 1a 2a 3a 4a 6b"},
		{"Union the other way", order.Union(b, a), "0b 1a 2b 3a 4b 6b"},
		{"Union with none", order.Union(a, none), "1a 2a 3a 4a"},
		{"Union of none with", order.Union(none, b), "0b 2b 4b 6b"},
		{"Union with itself", order.Union(a, a), "1a 2a 3a 4a"},
		{"Union of none", order.Union(none, none), ""},
		{"Meet", order.Meet(a, b), "2a 4a"},
		{"Meet the other way", order.Meet(b, a), "2b 4b"},
		{"Meet with none", order.Meet(a, none), ""},
		{"Meet of none with", order.Meet(none, b), ""},
		{"Meet with itself", order.Meet(a, a), "1a 2a 3a 4a"},
		{"Less", order.Less(a, b), "1a 3a"},
		{"Less the other way", order.Less(b, a), "0b 6b"},
		{"Less none", order.Less(a, none), "1a 2a 3a 4a"},
		{"Less of none", order.Less(none, b), ""},
		{"Less itself", order.Less(a, a), ""},
		{"Clone", a.Clone(), "1a 2a 3a 4a"},
		{"Clone of none", none.Clone(), ""},
	} {
		expect(t, c.what, text(c.got.All()), c.want)
		expect(t, c.what+" Len", c.got.Len(), len(strings.Fields(c.want)))
	}
	expect(t, "a stays", text(a.All()), "1a 2a 3a 4a")
	expect(t, "b stays", text(b.All()), "0b 2b 4b 6b")
	expect(t, "none stays", text(none.All()), "")
}

func TestSame(t *testing.T) {
	none := order.New[item]()
	for _, c := range []struct {
		what string
		a, b *order.Set[item]
		want bool
	}{
		{"itself", marked("a", 1, 2), marked("a", 1, 2), true},
		{"other marks", marked("a", 1, 2), marked("b", 2, 1), true},
		{"none", none, order.New[item](), true},
		{"none and some", none, marked("a", 1), false},
		{"some and none", marked("a", 1), none, false},
		{"less", marked("a", 1, 2), marked("a", 1, 2, 3), false},
		{"more", marked("a", 1, 2, 3), marked("a", 1, 2), false},
		{"another first", marked("a", 0, 2, 3), marked("a", 1, 2, 3), false},
		{"another last", marked("a", 1, 2, 3), marked("a", 1, 2, 4), false},
		{"none in common", marked("a", 1, 2, 3), marked("a", 4, 5, 6), false},
	} {
		expect(t, "Same: "+c.what, order.Same(c.a, c.b), c.want)
	}
}

func TestNewSetsAreIndependent(t *testing.T) {
	for name, derive := range map[string]func(a *order.Set[item]) *order.Set[item]{
		"Clone":           func(a *order.Set[item]) *order.Set[item] { return a.Clone() },
		"Union with none": func(a *order.Set[item]) *order.Set[item] { return order.Union(a, order.New[item]()) },
		"Union of none":   func(a *order.Set[item]) *order.Set[item] { return order.Union(order.New[item](), a) },
		"Union":           func(a *order.Set[item]) *order.Set[item] { return order.Union(a, a) },
		"Meet":            func(a *order.Set[item]) *order.Set[item] { return order.Meet(a, a) },
		"Less":            func(a *order.Set[item]) *order.Set[item] { return order.Less(a, order.New[item]()) },
	} {
		a := marked("a", 1, 2, 3)
		b := derive(a)
		if a == b {
			t.Errorf("%s is the same object", name)
		}
		a.Drop(item{1, ""})
		a.Put(item{9, "a"})
		expect(t, name+" after changes of the old one", text(b.All()), "1a 2a 3a")
		b.Drop(item{2, ""})
		b.Put(item{8, "b"})
		expect(t, name, text(b.All()), "1a 3a 8b")
		expect(t, name+": the old one", text(a.All()), "2a 3a 9a")
	}
}

// far has ranks whose difference does not fit into an int.
type far int

func (a far) Compare(b far) int {
	switch {
	case a < b:
		return math.MinInt
	case a > b:
		return math.MaxInt
	}
	return 0
}

func TestSignOfCompareCounts(t *testing.T) {
	s := order.New[far](math.MaxInt, 0, math.MinInt, 0)
	expect(t, "Len", s.Len(), 3)
	for i, want := range []far{math.MinInt, 0, math.MaxInt} {
		x, _ := s.At(i)
		expect(t, "At", x, want)
	}
}

// odd is no order: what its Compare answers is its sign, whatever the other one is.
type odd int

func (a odd) Compare(b odd) int { return int(a) }

// sour has a Compare that panics when the two differ.
type sour int

func (a sour) Compare(b sour) int {
	if a != b {
		panic("cannot be compared")
	}
	return 0
}

// askAll calls everything that a set has, and goes on until nothing is left of the set.
func askAll[T api.Ordered[T]](l []T) {
	s := order.New(l...)
	for _, x := range l {
		s.Get(x)
		s.Place(x)
		for range s.From(x) {
		}
	}
	other := order.New(l[1:]...)
	for _, o := range []*order.Set[T]{order.Union(s, other), order.Meet(s, other), order.Less(s, other), s.Clone()} {
		order.Same(s, o)
		for i := range o.Len() + 1 {
			o.At(i)
		}
		for x := range o.Back() {
			o.Drop(x)
		}
	}
	for x := range s.All() {
		s.Drop(x)
		s.Put(x)
	}
}

func TestNoOrderEnds(t *testing.T) {
	for _, sign := range []int{1, -1, 0} {
		var l []odd
		for i := range 300 {
			l = append(l, odd(sign*(i+1)))
		}
		askAll(l)
	}
	askAll([]odd{1, -2, 0, 3, -4, 0, 5, -6, 7, 0})
}

func TestPanicOfCompareIsCaught(t *testing.T) {
	askAll([]sour{1, 2, 3})
	s := order.New[sour](1)
	expect(t, "Put", s.Put(2), false)
	expect(t, "Drop", s.Drop(2), false)
	x, ok := s.Get(2)
	expect(t, "Get", x, 0)
	expect(t, "Get there", ok, false)
	place, there := s.Place(2)
	expect(t, "Place", place, 0)
	expect(t, "Place there", there, false)
	for x := range s.From(2) {
		t.Errorf("From yields %v", x)
	}
	expect(t, "Len", s.Len(), 1)
	expect(t, "the member stays", s.Put(1), false)
}

// A panic of the loop's own body is the caller's: it must come through.
func TestPanicOfLoopComesThrough(t *testing.T) {
	s := marked("a", 1, 2, 3)
	for name := range spans(s) {
		caught := func() (what any) {
			defer func() { what = recover() }()
			for range spans(s)[name] {
				panic("mine")
			}
			return nil
		}()
		expect(t, name, caught, any("mine"))
	}
}

// plain is the same set, told as simply as can be: items in order.
type plain []item

func (p plain) place(x item) (int, bool) {
	return slices.BinarySearchFunc(p, x, item.Compare)
}

func (p *plain) put(x item) bool {
	i, there := p.place(x)
	if !there {
		*p = slices.Insert(slices.Clone(*p), i, x)
	}
	return !there
}

func (p *plain) drop(x item) bool {
	i, there := p.place(x)
	if there {
		*p = slices.Delete(slices.Clone(*p), i, i+1)
	}
	return there
}

// steps makes the same numbers below most each time.
func steps(seed uint64, most int) func() int {
	return func() int {
		seed = seed*6364136223846793005 + 1442695040888963407
		return int(seed>>33) % most
	}
}

func TestAgainstPlain(t *testing.T) {
	for seed := range uint64(8) {
		next := steps(seed, 60)
		s, p := order.New[item](), plain{}
		for i := range 1500 {
			x := item{next(), strconv.Itoa(i)}
			if next() < 30 {
				expect(t, "Put", s.Put(x), p.put(x))
			} else {
				expect(t, "Drop", s.Drop(x), p.drop(x))
			}
			matches(t, s, p, item{next(), "asked"})
		}
	}
}

// matches holds all that s tells against p.
func matches(t *testing.T, s *order.Set[item], p plain, x item) {
	t.Helper()
	back := slices.Clone(p)
	slices.Reverse(back)
	i, there := p.place(x)
	place, ok := s.Place(x)
	expect(t, "Place", place, i)
	expect(t, "there", ok, there)
	expect(t, "Len", s.Len(), len(p))
	if !slices.Equal(slices.Collect(s.All()), p) || !slices.Equal(slices.Collect(s.Back()), back) || !slices.Equal(slices.Collect(s.From(x)), p[i:]) {
		t.Fatalf("%s instead of %s", text(s.All()), text(slices.Values(p)))
	}
	for i, want := range p {
		got, ok := s.At(i)
		expect(t, "At", got, want)
		expect(t, "At is there", ok, true)
	}
}

func TestPairsAgainstPlain(t *testing.T) {
	next := steps(99, 40)
	for range 300 {
		a, b := order.New[item](), order.New[item]()
		for range next() {
			a.Put(item{next(), "a"})
		}
		for range next() {
			b.Put(item{next(), "b"})
		}
		var union, meet, less plain
		for x := range a.All() {
			union.put(x)
			if _, there := b.Get(x); there {
				meet.put(x)
			} else {
				less.put(x)
			}
		}
		for x := range b.All() {
			union.put(x)
		}
		matches(t, order.Union(a, b), union, item{20, ""})
		matches(t, order.Meet(a, b), meet, item{20, ""})
		matches(t, order.Less(a, b), less, item{20, ""})
		expect(t, "Same", order.Same(a, b), len(less) == 0 && a.Len() == b.Len())
	}
}
