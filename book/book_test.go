package book_test

import (
	"cmp"
	"iter"
	"maps"
	"slices"
	"strconv"
	"strings"
	"testing"

	"ponder/api"
	"ponder/book"
	"ponder/order"
)

// word is a key with a rank, which Compare asks, and a mark, which tells equal keys apart.
type word struct {
	rank int
	mark string
}

func (a word) Compare(b word) int { return a.rank - b.rank }

// text writes keys and values as `1a=10 2b=20`.
func text(l iter.Seq2[word, int]) string {
	var parts []string
	for k, v := range l {
		parts = append(parts, k.mark+strconv.Itoa(k.rank)+"="+strconv.Itoa(v))
	}
	return strings.Join(parts, " ")
}

// names writes keys as `a1 b2`.
func names(l iter.Seq[word]) string {
	var parts []string
	for k := range l {
		parts = append(parts, k.mark+strconv.Itoa(k.rank))
	}
	return strings.Join(parts, " ")
}

// marked makes a map of these ranks, each with the mark, and with ten times its rank as its value.
func marked(mark string, ranks ...int) *book.Map[word, int] {
	m := book.New[word, int]()
	for _, r := range ranks {
		m.Put(word{r, mark}, 10*r)
	}
	return m
}

func expect[T comparable](t *testing.T, what string, got, want T) {
	t.Helper()
	if got != want {
		t.Errorf("%s: got %v, want %v", what, got, want)
	}
}

func TestNew(t *testing.T) {
	m := book.New[word, int]()
	expect(t, "Len", m.Len(), 0)
	expect(t, "All", text(m.All()), "")
	m.Put(word{1, "a"}, 1)
	expect(t, "another new one", book.New[word, int]().Len(), 0)
}

func TestPut(t *testing.T) {
	m := book.New[word, int]()
	for _, c := range []struct {
		key   word
		value int
		added bool
		all   string
	}{
		{word{5, "a"}, 50, true, "a5=50"},
		{word{5, "b"}, 51, false, "a5=51"},
		{word{-5, "c"}, 1, true, "c-5=1 a5=51"},
		{word{9, "d"}, 2, true, "c-5=1 a5=51 d9=2"},
		{word{0, "e"}, 0, true, "c-5=1 e0=0 a5=51 d9=2"},
		{word{0, "f"}, 0, false, "c-5=1 e0=0 a5=51 d9=2"},
		{word{0, "e"}, 7, false, "c-5=1 e0=7 a5=51 d9=2"},
		{word{-5, "g"}, 8, false, "c-5=8 e0=7 a5=51 d9=2"},
		{word{9, "h"}, 9, false, "c-5=8 e0=7 a5=51 d9=9"},
	} {
		what := "Put " + c.key.mark
		expect(t, what, m.Put(c.key, c.value), c.added)
		expect(t, what+": All", text(m.All()), c.all)
		expect(t, what+": Len", m.Len(), len(strings.Fields(c.all)))
	}
}

func TestGet(t *testing.T) {
	m := marked("a", 1, 2, 3)
	m.Put(word{4, "a"}, 0)
	for _, c := range []struct {
		rank, value int
		there       bool
	}{{0, 0, false}, {1, 10, true}, {2, 20, true}, {3, 30, true}, {4, 0, true}, {5, 0, false}} {
		what := "Get " + strconv.Itoa(c.rank)
		v, there := m.Get(word{c.rank, "asked"})
		expect(t, what, v, c.value)
		expect(t, what+" there", there, c.there)
	}
	v, there := book.New[word, string]().Get(word{1, "a"})
	expect(t, "Get from an empty map", v, "")
	expect(t, "there in an empty map", there, false)
}

func TestDrop(t *testing.T) {
	m := marked("a", 1, 2, 3, 4)
	for _, c := range []struct {
		rank, value int
		there       bool
		all         string
	}{
		{0, 0, false, "a1=10 a2=20 a3=30 a4=40"},
		{5, 0, false, "a1=10 a2=20 a3=30 a4=40"},
		{2, 20, true, "a1=10 a3=30 a4=40"},
		{2, 0, false, "a1=10 a3=30 a4=40"},
		{1, 10, true, "a3=30 a4=40"},
		{4, 40, true, "a3=30"},
		{3, 30, true, ""},
		{3, 0, false, ""},
	} {
		what := "Drop " + strconv.Itoa(c.rank)
		v, there := m.Drop(word{c.rank, "asked"})
		expect(t, what, v, c.value)
		expect(t, what+" there", there, c.there)
		expect(t, what+": All", text(m.All()), c.all)
		expect(t, what+": Len", m.Len(), len(strings.Fields(c.all)))
	}
	expect(t, "Put after Drop", m.Put(word{2, "b"}, 22), true)
	expect(t, "All after Put", text(m.All()), "b2=22")
}

func TestFirst(t *testing.T) {
	m := book.New[word, int]()
	expectFirst := func(key word, value int, there bool) {
		t.Helper()
		k, v, ok := m.First()
		expect(t, "key", k, key)
		expect(t, "value", v, value)
		expect(t, "there", ok, there)
	}
	expectFirst(word{}, 0, false)
	m.Put(word{5, "a"}, 50)
	expectFirst(word{5, "a"}, 50, true)
	m.Put(word{7, "b"}, 70)
	expectFirst(word{5, "a"}, 50, true)
	m.Put(word{3, "c"}, 0)
	expectFirst(word{3, "c"}, 0, true)
	m.Put(word{3, "d"}, 33)
	expectFirst(word{3, "c"}, 33, true)
	m.Drop(word{3, ""})
	expectFirst(word{5, "a"}, 50, true)
	m.Drop(word{5, ""})
	m.Drop(word{7, ""})
	expectFirst(word{}, 0, false)
}

func TestExample(t *testing.T) {
	s1, s2 := api.Sym{Kind: api.Id, Text: "S", N: 1}, api.Sym{Kind: api.Id, Text: "S", N: 2}
	m := book.New[api.Sym, int]()
	m.Put(s2, 5)
	m.Put(s1, 7)
	k, v, there := m.First()
	expect(t, "key", k, s1)
	expect(t, "value", v, 7)
	expect(t, "there", there, true)
}

func TestValuesOfAnyKind(t *testing.T) {
	lists := book.New[word, []int]()
	expect(t, "a nil list", lists.Put(word{1, "a"}, nil), true)
	expect(t, "a list", lists.Put(word{1, "b"}, []int{1, 2}), false)
	l, there := lists.Get(word{1, "c"})
	expect(t, "list there", there, true)
	expect(t, "list", slices.Equal(l, []int{1, 2}), true)
	maps := book.New[word, *book.Map[word, int]]()
	maps.Put(word{1, "a"}, marked("b", 2))
	inner, _ := maps.Get(word{1, ""})
	inner.Put(word{3, "c"}, 4)
	again, there := maps.Drop(word{1, ""})
	expect(t, "map there", there, true)
	expect(t, "map", text(again.All()), "b2=20 c3=4")
	gone, there := maps.Get(word{1, ""})
	expect(t, "no map there", there, false)
	expect(t, "no map", gone, nil)
}

func TestClone(t *testing.T) {
	a := marked("a", 1, 2, 3)
	b := a.Clone()
	expect(t, "Clone", text(b.All()), "a1=10 a2=20 a3=30")
	expect(t, "Len", b.Len(), 3)
	a.Put(word{2, ""}, 99)
	a.Drop(word{1, ""})
	a.Put(word{4, "a"}, 40)
	expect(t, "Clone after changes of the old one", text(b.All()), "a1=10 a2=20 a3=30")
	b.Put(word{3, ""}, 77)
	b.Drop(word{2, ""})
	b.Put(word{0, "b"}, 5)
	expect(t, "Clone after its own changes", text(b.All()), "b0=5 a1=10 a3=77")
	expect(t, "the old one", text(a.All()), "a2=99 a3=30 a4=40")
	none := book.New[word, int]()
	of := none.Clone()
	of.Put(word{1, "a"}, 1)
	expect(t, "Clone of none", text(of.All()), "a1=1")
	expect(t, "none stays", none.Len(), 0)
}

func TestSequences(t *testing.T) {
	m, none := marked("a", 2, 4, 6), book.New[word, int]()
	for _, c := range []struct {
		what string
		seq  iter.Seq2[word, int]
		want string
	}{
		{"All", m.All(), "a2=20 a4=40 a6=60"},
		{"From a key", m.From(word{4, "asked"}), "a4=40 a6=60"},
		{"From between", m.From(word{3, ""}), "a4=40 a6=60"},
		{"From the first", m.From(word{2, ""}), "a2=20 a4=40 a6=60"},
		{"From below all", m.From(word{-9, ""}), "a2=20 a4=40 a6=60"},
		{"From the last", m.From(word{6, ""}), "a6=60"},
		{"From above all", m.From(word{7, ""}), ""},
		{"All of none", none.All(), ""},
		{"From of none", none.From(word{0, ""}), ""},
	} {
		expect(t, c.what, text(c.seq), c.want)
		expect(t, c.what+" again", text(c.seq), c.want)
	}
	keys := m.Keys()
	expect(t, "Keys", names(keys), "a2 a4 a6")
	expect(t, "Keys again", names(keys), "a2 a4 a6")
	expect(t, "Keys of none", names(none.Keys()), "")
}

// spans names the sequences of a map, each telling keys and values (the value of Keys is 10 times the rank).
func spans(m *book.Map[word, int]) map[string]iter.Seq2[word, int] {
	return map[string]iter.Seq2[word, int]{
		"All":  m.All(),
		"From": m.From(word{1, ""}),
		"Keys": func(yield func(word, int) bool) {
			for k := range m.Keys() {
				if !yield(k, 10*k.rank) {
					return
				}
			}
		},
	}
}

func TestSequencesAreLeft(t *testing.T) {
	m := marked("a", 1, 2, 3, 4, 5)
	for name, l := range spans(m) {
		for most := 1; most <= 5; most++ {
			seen := 0
			for k, v := range l {
				seen++
				expect(t, name+" key", k, word{seen, "a"})
				expect(t, name+" value", v, 10*seen)
				if seen == most {
					break
				}
			}
			expect(t, name+" left", seen, most)
		}
		expect(t, name+" after that", text(l), "a1=10 a2=20 a3=30 a4=40 a5=50")
	}
}

func TestChangesInLoopAreNotSeen(t *testing.T) {
	for name := range spans(marked("")) {
		m := marked("a", 1, 3, 5)
		seen := 0
		for k, v := range spans(m)[name] {
			expect(t, name+" key", k, word{2*seen + 1, "a"})
			expect(t, name+" value", v, 10*(2*seen+1))
			seen++
			m.Put(word{3, "new"}, 33)
			m.Put(word{4, "new"}, 44)
			m.Put(word{9, "new"}, 99)
			m.Drop(word{5, ""})
		}
		expect(t, name+" yields", seen, 3)
		expect(t, name+" leaves", text(m.All()), "a1=10 a3=33 new4=44 new9=99")
	}
}

func TestChangesBetweenLoopsAreSeen(t *testing.T) {
	m := book.New[word, int]()
	all := spans(m)
	m.Put(word{3, "a"}, 30)
	m.Put(word{1, "a"}, 10)
	for name, l := range all {
		expect(t, name, text(l), "a1=10 a3=30")
	}
	m.Put(word{1, "b"}, 11)
	m.Put(word{2, "b"}, 20)
	m.Drop(word{3, ""})
	expect(t, "All later", text(all["All"]), "a1=11 b2=20")
	expect(t, "From later", text(all["From"]), "a1=11 b2=20")
	expect(t, "Keys later", text(all["Keys"]), "a1=10 b2=20")
}

func TestLoopsWithinLoops(t *testing.T) {
	m := marked("a", 1, 2, 3)
	got := ""
	for k, v := range m.All() {
		m.Put(k, v+k.rank)
		got += text(m.From(word{2, ""})) + " | "
	}
	expect(t, "loops", got, "a2=20 a3=30 | a2=22 a3=30 | a2=22 a3=33 | ")
	expect(t, "All", text(m.All()), "a1=11 a2=22 a3=33")
}

// A panic of the loop's own body is the caller's: it must come through.
func TestPanicOfLoopComesThrough(t *testing.T) {
	for name, l := range spans(marked("a", 1, 2, 3)) {
		caught := func() (what any) {
			defer func() { what = recover() }()
			for range l {
				panic("mine")
			}
			return nil
		}()
		expect(t, name, caught, any("mine"))
	}
}

func TestCount(t *testing.T) {
	for _, c := range []struct {
		what string
		l    []word
		want string
	}{
		{"none", nil, ""},
		{"one", []word{{1, "a"}}, "a1=1"},
		{"different ones", []word{{3, "a"}, {1, "b"}, {2, "c"}}, "b1=1 c2=1 a3=1"},
		{"the same one", []word{{1, "a"}, {1, "a"}, {1, "a"}}, "a1=3"},
		{"equal ones: the first is the key", []word{{2, "a"}, {1, "b"}, {2, "c"}, {2, "d"}, {1, "e"}}, "b1=2 a2=3"},
	} {
		given := slices.Clone(c.l)
		expect(t, c.what, text(book.Count(slices.Values(c.l)).All()), c.want)
		expect(t, c.what+": as it was", slices.Equal(c.l, given), true)
	}
}

func TestCountOfSequences(t *testing.T) {
	m := marked("a", 1, 2)
	counts := book.Count(m.Keys())
	counts.Put(word{2, ""}, 5)
	counts.Put(word{7, "b"}, 1)
	expect(t, "counts", text(counts.All()), "a1=1 a2=5 b7=1")
	expect(t, "the keys' own map", text(m.All()), "a1=10 a2=20")
	s := order.New(word{3, "x"}, word{2, "y"})
	expect(t, "of a set", text(book.Count(s.Back()).All()), "y2=1 x3=1")
}

func TestCountGoesThroughOnce(t *testing.T) {
	begun, told, ended := 0, 0, 0
	counts := book.Count(func(yield func(word) bool) {
		begun++
		for i := range 100 {
			told++
			if !yield(word{i % 3, "a"}) {
				return
			}
		}
		ended++
	})
	expect(t, "begun", begun, 1)
	expect(t, "told", told, 100)
	expect(t, "ended", ended, 1)
	expect(t, "counts", text(counts.All()), "a0=34 a1=33 a2=33")
}

func TestCountOfPanicEnds(t *testing.T) {
	counts := book.Count(func(yield func(word) bool) {
		yield(word{1, "a"})
		yield(word{1, "b"})
		panic("no more")
	})
	expect(t, "counts", text(counts.All()), "a1=2")
	expect(t, "nil", book.Count[word](nil).Len(), 0)
}

// odd is no order: what its Compare answers is its sign, whatever the other one is.
type odd int

func (a odd) Compare(odd) int { return int(a) }

// sour has a Compare that panics when the two differ.
type sour int

func (a sour) Compare(b sour) int {
	if a != b {
		panic("cannot be compared")
	}
	return 0
}

// askAll calls everything that a map has, and goes on until nothing is left of it.
func askAll[K api.Ordered[K]](l []K) {
	m := book.New[K, int]()
	for i, k := range l {
		m.Put(k, i)
	}
	for _, k := range l {
		m.Get(k)
		for range m.From(k) {
		}
	}
	for k, v := range m.Clone().All() {
		m.Put(k, v+1)
		m.Drop(k)
	}
	m.First()
	for k, n := range book.Count(slices.Values(l)).All() {
		m.Put(k, n)
	}
	for k := range m.Keys() {
		m.Drop(k)
	}
}

func TestNoOrderEnds(t *testing.T) {
	for _, sign := range []int{1, -1, 0} {
		var l []odd
		for i := range 300 {
			l = append(l, odd(sign*(i+1)))
		}
		askAll(l)
	}
	askAll([]odd{1, -2, 0, 3, -4, 0, 5, -6, 7, 0})
}

func TestPanicOfCompareIsCaught(t *testing.T) {
	askAll([]sour{1, 2, 3})
	m := book.New[sour, int]()
	m.Put(1, 10)
	expect(t, "Put", m.Put(2, 20), false)
	v, there := m.Get(2)
	expect(t, "Get", v, 0)
	expect(t, "Get there", there, false)
	v, there = m.Drop(2)
	expect(t, "Drop", v, 0)
	expect(t, "Drop there", there, false)
	for k := range m.From(2) {
		t.Errorf("From yields %v", k)
	}
	expect(t, "Len", m.Len(), 1)
	v, there = m.Get(1)
	expect(t, "the value stays", v, 10)
	expect(t, "the key stays", there, true)
}

// plain is the same map, told as simply as can be: each rank with its mark and value.
type plain map[int]struct {
	mark  string
	value int
}

func (p plain) put(k word, v int) bool {
	old, there := p[k.rank]
	if !there {
		old.mark = k.mark
	}
	old.value = v
	p[k.rank] = old
	return !there
}

func (p plain) drop(k word) (int, bool) {
	old, there := p[k.rank]
	delete(p, k.rank)
	return old.value, there
}

// from yields the keys from rank on, with their values.
func (p plain) from(rank int) iter.Seq2[word, int] {
	return func(yield func(word, int) bool) {
		for _, r := range slices.SortedFunc(maps.Keys(p), cmp.Compare) {
			if r >= rank && !yield(word{r, p[r].mark}, p[r].value) {
				return
			}
		}
	}
}

// steps makes the same numbers below most each time.
func steps(seed uint64, most int) func() int {
	return func() int {
		seed = seed*6364136223846793005 + 1442695040888963407
		return int(seed>>33) % most
	}
}

func TestAgainstPlain(t *testing.T) {
	for seed := range uint64(8) {
		next := steps(seed, 40)
		m, p := book.New[word, int](), plain{}
		for i := range 1000 {
			k := word{next(), strconv.Itoa(i) + "."}
			if next() < 24 {
				expect(t, "Put", m.Put(k, i), p.put(k, i))
			} else {
				v, there := m.Drop(k)
				value, ok := p.drop(k)
				expect(t, "Drop", v, value)
				expect(t, "Drop there", there, ok)
			}
			matches(t, m, p, word{next(), "asked"})
		}
	}
}

// matches holds what m tells against p.
func matches(t *testing.T, m *book.Map[word, int], p plain, k word) {
	t.Helper()
	expect(t, "Len", m.Len(), len(p))
	v, there := m.Get(k)
	old, ok := p[k.rank]
	expect(t, "Get", v, old.value)
	expect(t, "Get there", there, ok)
	expect(t, "All", text(m.All()), text(p.from(0)))
	expect(t, "From", text(m.From(k)), text(p.from(k.rank)))
}
