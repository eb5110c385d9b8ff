package sym_test

import (
	"iter"
	"math"
	"slices"
	"strconv"
	"strings"
	"testing"

	"ponder/api"
	"ponder/sym"
)

// table makes a table with this room that knows l.
func table(t *testing.T, room int, l ...api.Sym) *sym.Table {
	t.Helper()
	made, e := sym.New(room)
	expect(t, "New", e, api.OK)
	expect(t, "Put", made.Put(l...), api.OK)
	return made
}

// parsed answers the symbols with these texts.
func parsed(t *testing.T, texts string) []api.Sym {
	t.Helper()
	var l []api.Sym
	for _, text := range strings.Fields(texts) {
		s, ok := sym.Parse(text)
		expect(t, "Parse "+text, ok, true)
		l = append(l, s)
	}
	return l
}

// text writes symbols as `S1 5 a`.
func text(l iter.Seq[api.Sym]) string {
	var texts []string
	for s := range l {
		texts = append(texts, sym.Text(s))
	}
	return strings.Join(texts, " ")
}

// next writes what Next answers for each letter that is used: `S5 T2`.
func next(made *sym.Table) string {
	var parts []string
	for c := range 256 {
		if n := made.Next(byte(c)); n > 1 {
			parts = append(parts, string(rune(c))+strconv.Itoa(n))
		}
	}
	return strings.Join(parts, " ")
}

// expectTable holds all that a table tells against the texts of its symbols, in order, and against its next numbers.
func expectTable(t *testing.T, what string, made *sym.Table, all, numbers string) {
	t.Helper()
	expect(t, what+": All", text(made.All()), all)
	expect(t, what+": Len", made.Len(), len(strings.Fields(all)))
	expect(t, what+": Next", next(made), numbers)
	for s := range made.All() {
		expect(t, what+": Has "+sym.Text(s), made.Has(s), true)
	}
}

func expectFresh(t *testing.T, made *sym.Table, letter byte, want api.Sym, e api.Errno) {
	t.Helper()
	s, got := made.Fresh(letter)
	expect(t, "Fresh "+strconv.Quote(string(rune(letter))), s, want)
	expect(t, "Fresh "+strconv.Quote(string(rune(letter)))+": error", got, e)
}

func TestNew(t *testing.T) {
	for _, room := range []int{1, 2, 100, api.MaxSyms - 1, api.MaxSyms} {
		made, e := sym.New(room)
		expect(t, "New "+strconv.Itoa(room), e, api.OK)
		expectTable(t, "a new one", made, "", "")
	}
	for _, room := range []int{0, -1, -api.MaxSyms, api.MaxSyms + 1, math.MaxInt, math.MinInt} {
		made, e := sym.New(room)
		expect(t, "New "+strconv.Itoa(room), e, api.ErrArg)
		expect(t, "New "+strconv.Itoa(room)+": table", made, nil)
	}
}

func TestPut(t *testing.T) {
	made := table(t, 10)
	expect(t, "Put of none", made.Put(), api.OK)
	expect(t, "Put of nil", made.Put([]api.Sym(nil)...), api.OK)
	expectTable(t, "none", made, "", "")
	for _, c := range []struct{ put, all, numbers string }{
		{"b", "b", ""},
		{"b", "b", ""},
		{"S3 b -5", "S3 -5 b", "S4"},
		{"a a 7 a", "S3 -5 7 a b", "S4"},
		{"S3 S3", "S3 -5 7 a b", "S4"},
		{"S20 S1 A1", "A1 S1 S3 S20 -5 7 a b", "A2 S21"},
		{"-10 ab", "A1 S1 S3 S20 -10 -5 7 a ab b", "A2 S21"},
	} {
		expect(t, "Put "+c.put, made.Put(parsed(t, c.put)...), api.OK)
		expectTable(t, "after "+c.put, made, c.all, c.numbers)
	}
}

func TestPutForm(t *testing.T) {
	made := table(t, 5, parsed(t, "S1 a")...)
	for _, s := range strangers() {
		for _, l := range [][]api.Sym{{s}, {s, word("b")}, {word("b"), id("S", 9), s}, {word("a"), s, s}, append(parsed(t, "b c d e f g"), s)} {
			expect(t, "Put", made.Put(l...), api.ErrForm)
			expect(t, "Has", made.Has(s), false)
		}
	}
	expectTable(t, "as it was", made, "S1 a", "S2")
}

func TestPutRoom(t *testing.T) {
	made := table(t, 4, parsed(t, "S1 a")...)
	for _, c := range []struct {
		put string
		e   api.Errno
		all string
	}{
		{"b c d", api.ErrSyms, "S1 a"},
		{"S9 b S8", api.ErrSyms, "S1 a"},
		{"S9 b a S1 S8", api.ErrSyms, "S1 a"},
		{"b a S1 b c b", api.OK, "S1 a b c"},
		{"d", api.ErrSyms, "S1 a b c"},
		{"a b c S2", api.ErrSyms, "S1 a b c"},
		{"", api.OK, "S1 a b c"},
		{"c a S1 b a c", api.OK, "S1 a b c"},
		{"d d", api.ErrSyms, "S1 a b c"},
	} {
		expect(t, "Put "+c.put, made.Put(parsed(t, c.put)...), c.e)
		expectTable(t, "after "+c.put, made, c.all, "S2")
	}
	one := table(t, 1)
	expect(t, "two into one", one.Put(num(1), num(2)), api.ErrSyms)
	expect(t, "one twice", one.Put(num(2), num(2)), api.OK)
	expectTable(t, "one", one, "2", "")
}

func TestGreatestRoom(t *testing.T) {
	var l []api.Sym
	for i := range api.MaxSyms {
		l = append(l, num(i-1000))
	}
	made := table(t, api.MaxSyms, l...)
	expect(t, "Len", made.Len(), api.MaxSyms)
	expect(t, "All", slices.Equal(slices.Collect(made.All()), l), true)
	expect(t, "one more", made.Put(word("a")), api.ErrSyms)
	expectFresh(t, made, 'A', api.Sym{}, api.ErrSyms)
	expect(t, "Len after that", made.Len(), api.MaxSyms)
	expect(t, "one more than all", table(t, api.MaxSyms).Put(append(l, word("a"))...), api.ErrSyms)
}

func TestPutKeepsNoArgument(t *testing.T) {
	l := parsed(t, "S2 a 1 a")
	given := slices.Clone(l)
	made := table(t, 9, l[:3]...)
	expect(t, "the argument", slices.Equal(l, given), true)
	l[0], l[1], l[2] = id("T", 5), word("x"), api.Sym{}
	expectTable(t, "afterwards", made, "S2 1 a", "S3")
}

func TestHas(t *testing.T) {
	made := table(t, 9, parsed(t, "S2 T1 a 1")...)
	for _, s := range parsed(t, "S2 T1 a 1") {
		expect(t, "Has "+sym.Text(s), made.Has(s), true)
	}
	for _, s := range append(parsed(t, "S1 S3 T2 U1 b aa 0 2 -1"), strangers()...) {
		if made.Has(s) {
			t.Errorf("%#v is known", s)
		}
	}
}

func TestAllIsLeft(t *testing.T) {
	made := table(t, 9, parsed(t, "a b S1 5")...)
	all := made.All()
	want := strings.Fields("S1 5 a b")
	for most := 1; most <= 4; most++ {
		seen := 0
		for s := range all {
			expect(t, "All", sym.Text(s), want[seen])
			seen++
			if seen == most {
				break
			}
		}
		expect(t, "left", seen, most)
	}
	expect(t, "All again", text(all), "S1 5 a b")
}

func TestAllWhileChanged(t *testing.T) {
	made := table(t, 9)
	all := made.All()
	expect(t, "none yet", text(all), "")
	expect(t, "Put", made.Put(parsed(t, "S1 b")...), api.OK)
	seen := ""
	for s := range all {
		seen += sym.Text(s) + " "
		expect(t, "Put", made.Put(parsed(t, "5 c")...), api.OK)
		made.Fresh('S')
		expect(t, "Put too many", made.Put(parsed(t, "d e f g h i j")...), api.ErrSyms)
	}
	expect(t, "the loop", seen, "S1 b ")
	expect(t, "the sequence again", text(all), "S1 S2 S3 5 b c")
	made.Fresh('A')
	expect(t, "and again", text(all), "A1 S1 S2 S3 5 b c")
}

func TestPanicOfLoopComesThrough(t *testing.T) {
	caught := func() (what any) {
		defer func() { what = recover() }()
		for range table(t, 1, word("a")).All() {
			panic("mine")
		}
		return nil
	}()
	expect(t, "panic", caught, any("mine"))
}

func TestNext(t *testing.T) {
	made := table(t, 20)
	for i := range 256 {
		want := 0
		if i >= 'A' && i <= 'Z' {
			want = 1
		}
		expect(t, "Next "+strconv.Quote(string(rune(i))), made.Next(byte(i)), want)
	}
	// Words and numbers, and what could not be put, are no identifiers.
	expect(t, "Put", made.Put(parsed(t, "s5 t 77 S7 S12 S3 Z1 A1048576")...), api.OK)
	expect(t, "Put of a stranger", made.Put(id("B", 9), id("B", 0)), api.ErrForm)
	expect(t, "Next", next(made), "A1048577 S13 Z2")
	expect(t, "Put of lower ones", made.Put(parsed(t, "S1 S11 A9")...), api.OK)
	expect(t, "Next", next(made), "A1048577 S13 Z2")
	expect(t, "none with a number less than 1", made.Next('s'), 0)
}

func TestFresh(t *testing.T) {
	made := table(t, 9)
	expectFresh(t, made, 'S', id("S", 1), api.OK)
	expectFresh(t, made, 'S', id("S", 2), api.OK)
	expectFresh(t, made, 'A', id("A", 1), api.OK)
	expectTable(t, "three", made, "A1 S1 S2", "A2 S3")
	expect(t, "Put", made.Put(parsed(t, "S7 S5 A1")...), api.OK)
	expectFresh(t, made, 'S', id("S", 8), api.OK)
	expectFresh(t, made, 'A', id("A", 2), api.OK)
	expectFresh(t, made, 'Z', id("Z", 1), api.OK)
	expectTable(t, "eight", made, "A1 A2 S1 S2 S5 S7 S8 Z1", "A3 S9 Z2")
}

func TestFreshLetters(t *testing.T) {
	made := table(t, 60)
	for range 2 {
		for i := range 256 {
			n := made.Next(byte(i))
			if i >= 'A' && i <= 'Z' {
				expectFresh(t, made, byte(i), id(string(rune(i)), n), api.OK)
			} else {
				expectFresh(t, made, byte(i), api.Sym{}, api.ErrArg)
			}
		}
	}
	expect(t, "Len", made.Len(), 52)
}

func TestFreshWithoutRoom(t *testing.T) {
	made := table(t, 2, word("a"))
	expectFresh(t, made, 'S', id("S", 1), api.OK)
	expectFresh(t, made, 'S', api.Sym{}, api.ErrSyms)
	expectFresh(t, made, 'T', api.Sym{}, api.ErrSyms)
	expectFresh(t, made, 's', api.Sym{}, api.ErrArg)
	expectFresh(t, made, '@', api.Sym{}, api.ErrArg)
	expectTable(t, "as it was", made, "S1 a", "S2")
}

func TestFreshAtGreatestNumber(t *testing.T) {
	made := table(t, 9, id("S", api.MaxSeq-1))
	expectFresh(t, made, 'S', id("S", api.MaxSeq), api.OK)
	for range 2 {
		expect(t, "Next", made.Next('S'), api.MaxSeq+1)
		expectFresh(t, made, 'S', api.Sym{}, api.ErrSyms)
	}
	expectFresh(t, made, 'T', id("T", 1), api.OK)
	expectTable(t, "three", made, "S1048575 S1048576 T1", "S1048577 T2")
}

// An error of Put leaves the numbers as they were, too.
func TestFreshAfterErrors(t *testing.T) {
	made := table(t, 3, id("S", 4))
	expect(t, "too many", made.Put(parsed(t, "S9 S8 S7")...), api.ErrSyms)
	expect(t, "a stranger", made.Put(id("S", 9), api.Sym{}), api.ErrForm)
	expectFresh(t, made, 'S', id("S", 5), api.OK)
	expectTable(t, "two", made, "S4 S5", "S6")
}

func TestClone(t *testing.T) {
	a := table(t, 4, parsed(t, "S1 a")...)
	b := a.Clone()
	expectTable(t, "the clone", b, "S1 a", "S2")
	expectFresh(t, a, 'S', id("S", 2), api.OK)
	expectTable(t, "the clone after a change of the old one", b, "S1 a", "S2")
	expect(t, "Put", b.Put(parsed(t, "S9 b")...), api.OK)
	expectTable(t, "the old one after a change of the clone", a, "S1 S2 a", "S3")
	expectTable(t, "the changed clone", b, "S1 S9 a b", "S10")
	expect(t, "the clone has the same room", b.Put(word("c")), api.ErrSyms)
	expectFresh(t, b, 'T', api.Sym{}, api.ErrSyms)
	expectFresh(t, a, 'T', id("T", 1), api.OK)
	expectFresh(t, a, 'T', api.Sym{}, api.ErrSyms)
	expectTable(t, "the old one", a, "S1 S2 T1 a", "S3 T2")
	none := table(t, 1)
	of := none.Clone()
	expectFresh(t, of, 'S', id("S", 1), api.OK)
	expectTable(t, "none", none, "", "")
}

func TestCloneInLoop(t *testing.T) {
	a := table(t, 9, parsed(t, "a b c")...)
	seen := ""
	for s := range a.All() {
		b := a.Clone()
		b.Fresh('S')
		a.Fresh('T')
		seen += sym.Text(s) + ":" + text(b.All()) + "; "
	}
	expect(t, "the loop", seen, "a:S1 a b c; b:S1 T1 a b c; c:S1 T1 T2 a b c; ")
}

// plain is the same table, told as simply as can be.
type plain struct {
	known []api.Sym
	room  int
}

func (p *plain) put(l []api.Sym) api.Errno {
	known := slices.Clone(p.known)
	for _, s := range l {
		if !sym.Valid(s) {
			return api.ErrForm
		}
		if !slices.Contains(known, s) {
			known = append(known, s)
		}
	}
	if len(known) > p.room {
		return api.ErrSyms
	}
	slices.SortFunc(known, api.Sym.Compare)
	p.known = known
	return api.OK
}

func (p *plain) next(letter byte) int {
	n := 1
	for _, s := range p.known {
		if s.Kind == api.Id && s.Text == string(rune(letter)) {
			n = max(n, s.N+1)
		}
	}
	return n
}

func (p *plain) fresh(letter byte) (api.Sym, api.Errno) {
	s := id(string(rune(letter)), p.next(letter))
	if !slices.Contains(p.known, s) && len(p.known) < p.room && s.N <= api.MaxSeq {
		return s, p.put([]api.Sym{s})
	}
	return api.Sym{}, api.ErrSyms
}

// steps makes the same numbers below most each time.
func steps(seed uint64) func(most int) int {
	return func(most int) int {
		seed = seed*6364136223846793005 + 1442695040888963407
		return int(seed>>33) % most
	}
}

// some answers one symbol out of few, now and then a stranger, now and then one of the greatest numbers.
func some(step func(int) int) api.Sym {
	letter := string(rune('A' + step(3)))
	switch step(40) {
	case 0:
		l := strangers()
		return l[step(len(l))]
	case 1:
		return id("Z", api.MaxSeq-step(3))
	}
	switch step(3) {
	case 0:
		return id(letter, 1+step(30))
	case 1:
		return num(step(20) - 10)
	}
	return word(strings.ToLower(letter) + strconv.Itoa(step(10)))
}

func TestAgainstPlain(t *testing.T) {
	for seed := range uint64(20) {
		step := steps(seed)
		room := 1 + step(60)
		made, p := table(t, room), plain{room: room}
		for range 300 {
			switch step(3) {
			case 0:
				letter := "ABCZ"[step(4)]
				want, e := p.fresh(letter)
				expectFresh(t, made, letter, want, e)
			case 1:
				var l []api.Sym
				for range step(6) {
					l = append(l, some(step))
				}
				expect(t, "Put", made.Put(l...), p.put(l))
			default:
				old := made
				made = made.Clone()
				old.Fresh('A')
				old.Put(some(step))
			}
			matches(t, made, &p, some(step))
		}
	}
}

// matches holds what made tells against p.
func matches(t *testing.T, made *sym.Table, p *plain, s api.Sym) {
	t.Helper()
	expect(t, "Len", made.Len(), len(p.known))
	expect(t, "All", text(made.All()), text(slices.Values(p.known)))
	expect(t, "Has", made.Has(s), slices.Contains(p.known, s))
	for _, letter := range []byte("ABCDZ") {
		expect(t, "Next", made.Next(letter), p.next(letter))
	}
}
