package row_test

import (
	"iter"
	"math"
	"slices"
	"strconv"
	"strings"
	"testing"

	"ponder/api"
	"ponder/row"
)

// text writes numbers as `1 2 3`.
func text(l iter.Seq[int]) string {
	var parts []string
	for x := range l {
		parts = append(parts, strconv.Itoa(x))
	}
	return strings.Join(parts, " ")
}

// queue makes a queue with this room and these values.
func queue(t *testing.T, room int, l ...int) *row.Queue[int] {
	t.Helper()
	q, e := row.New[int](room)
	expect(t, "New", e, api.OK)
	expect(t, "Push", q.Push(l...), true)
	return q
}

func expect[T comparable](t *testing.T, what string, got, want T) {
	t.Helper()
	if got != want {
		t.Errorf("%s: got %v, want %v", what, got, want)
	}
}

// expectPop pops a value that must be want.
func expectPop(t *testing.T, q *row.Queue[int], want int) {
	t.Helper()
	x, there := q.Pop()
	expect(t, "Pop", x, want)
	expect(t, "Pop there", there, true)
}

func TestNew(t *testing.T) {
	for _, room := range []int{1, 2, 65535, 65536} {
		q, e := row.New[string](room)
		what := "New " + strconv.Itoa(room)
		expect(t, what, e, api.OK)
		expect(t, what+": Len", q.Len(), 0)
		expect(t, what+": filled", q.Push(make([]string, room)...), true)
		expect(t, what+": one more", q.Push("x"), false)
		expect(t, what+": Len when full", q.Len(), room)
	}
	for _, room := range []int{0, -1, 65537, math.MaxInt, math.MinInt} {
		q, e := row.New[string](room)
		what := "New " + strconv.Itoa(room)
		expect(t, what, e, api.ErrArg)
		expect(t, what+": queue", q, nil)
	}
}

func TestPush(t *testing.T) {
	q := queue(t, 5)
	for _, c := range []struct {
		l      []int
		pushed bool
		all    string
	}{
		{nil, true, ""},
		{[]int{1, 2, 3, 4, 5, 6}, false, ""},
		{[]int{3}, true, "3"},
		{[]int{1, 3}, true, "3 1 3"},
		{[]int{7, 8, 9}, false, "3 1 3"},
		{[]int{}, true, "3 1 3"},
		{[]int{7, 8}, true, "3 1 3 7 8"},
		{[]int{9}, false, "3 1 3 7 8"},
		{[]int{1, 2, 3, 4, 5}, false, "3 1 3 7 8"},
		{nil, true, "3 1 3 7 8"},
	} {
		what := "Push " + text(slices.Values(c.l))
		expect(t, what, q.Push(c.l...), c.pushed)
		expect(t, what+": All", text(q.All()), c.all)
		expect(t, what+": Len", q.Len(), len(strings.Fields(c.all)))
	}
}

func TestExample(t *testing.T) {
	q := queue(t, 2)
	expect(t, "Push of three", q.Push(1, 2, 3), false)
	expect(t, "All", text(q.All()), "")
	x, there := q.Pop()
	expect(t, "Pop", x, 0)
	expect(t, "there", there, false)
}

func TestPushCopies(t *testing.T) {
	l := []int{1, 2, 3, 4}
	q := queue(t, 9, l[:2]...)
	l[0], l[1] = 8, 9
	expect(t, "argument changed later", text(q.All()), "1 2")
	q.Push(5, 6, 7)
	expect(t, "All", text(q.All()), "1 2 5 6 7")
	expect(t, "the argument", text(slices.Values(l)), "8 9 3 4")
}

func TestPop(t *testing.T) {
	q := queue(t, 3, 7, 5, 7)
	expectPop(t, q, 7)
	expectPop(t, q, 5)
	expect(t, "Push of too many", q.Push(1, 2, 3), false)
	expect(t, "Push into the room again", q.Push(1, 2), true)
	for _, want := range []int{7, 1, 2} {
		expectPop(t, q, want)
	}
	for range 2 {
		x, there := q.Pop()
		expect(t, "Pop of none", x, 0)
		expect(t, "Pop of none there", there, false)
		expect(t, "Len", q.Len(), 0)
	}
	expect(t, "Push after all were popped", q.Push(4, 5, 6), true)
	expect(t, "All", text(q.All()), "4 5 6")
}

func TestZeroesAreValues(t *testing.T) {
	q := queue(t, 2, 0, 0)
	expect(t, "Len", q.Len(), 2)
	expectPop(t, q, 0)
	expectPop(t, q, 0)
	_, there := q.Pop()
	expect(t, "there", there, false)
}

func TestAt(t *testing.T) {
	q := queue(t, 4, 9, 8, 7, 6)
	q.Pop()
	for i, want := range []int{8, 7, 6} {
		x, there := q.At(i)
		expect(t, "At", x, want)
		expect(t, "At there", there, true)
	}
	for _, i := range []int{-1, -2, 3, 4, math.MaxInt, math.MinInt} {
		x, there := q.At(i)
		expect(t, "At nothing", x, 0)
		expect(t, "At nothing there", there, false)
	}
	x, there := queue(t, 4).At(0)
	expect(t, "At of an empty queue", x, 0)
	expect(t, "At of an empty queue there", there, false)
	expect(t, "At removes nothing", text(q.All()), "8 7 6")
}

func TestClone(t *testing.T) {
	a := queue(t, 5, 0, 1, 2, 3)
	a.Pop()
	b := a.Clone()
	c := b.Clone()
	expect(t, "Clone", text(b.All()), "1 2 3")
	expect(t, "Push into the old one", a.Push(4, 5), true)
	expect(t, "Push into the clone", b.Push(6), true)
	expect(t, "Push of too many into the clone", b.Push(7, 8), false)
	expectPop(t, b, 1)
	expectPop(t, b, 2)
	expect(t, "Push into the clone again", b.Push(7, 8), true)
	expectPop(t, a, 1)
	expect(t, "the old one", text(a.All()), "2 3 4 5")
	expect(t, "the clone", text(b.All()), "3 6 7 8")
	expect(t, "the clone's clone", text(c.All()), "1 2 3")
	expect(t, "Push into the clone's clone", c.Push(9, 9), true)
	expect(t, "the clone's clone is full", c.Push(9), false)
	expect(t, "the old one at last", text(a.All()), "2 3 4 5")
}

func TestCloneOfNone(t *testing.T) {
	a := queue(t, 1)
	b := a.Clone()
	expect(t, "Push", b.Push(1), true)
	expect(t, "Push of one more", b.Push(1), false)
	expect(t, "the old one", a.Len(), 0)
	a.Push(2)
	expect(t, "the clone", text(b.All()), "1")
}

// However many changes there were before, of a queue and its clone neither sees what the other does.
func TestClonesAreIndependent(t *testing.T) {
	for pushed := range 20 {
		for popped := range pushed + 1 {
			a := queue(t, 100)
			var old, clone []int
			for i := range pushed {
				a.Push(i)
				if i >= popped {
					old, clone = append(old, i), append(clone, i)
				}
			}
			for range popped {
				a.Pop()
			}
			b := a.Clone()
			for i := range 40 {
				a.Push(100 + i)
				b.Push(200 + i)
				old, clone = append(old, 100+i), append(clone, 200+i)
			}
			expect(t, "the old one", text(a.All()), text(slices.Values(old)))
			expect(t, "the clone", text(b.All()), text(slices.Values(clone)))
		}
	}
}

func TestValuesOfAnyKind(t *testing.T) {
	lists, _ := row.New[[]int](2)
	lists.Push(nil, []int{1, 2})
	l, there := lists.Pop()
	expect(t, "nil there", there, true)
	expect(t, "nil", len(l), 0)
	l, there = lists.At(0)
	expect(t, "list there", there, true)
	expect(t, "list", text(slices.Values(l)), "1 2")
	calls, _ := row.New[func() int](1)
	calls.Push(func() int { return 7 })
	call, _ := calls.Pop()
	expect(t, "function", call(), 7)
	call, there = calls.Pop()
	expect(t, "no function", call == nil, true)
	expect(t, "no function there", there, false)
	marks, _ := row.New[struct{}](65536)
	expect(t, "Push of nothings", marks.Push(make([]struct{}, 65536)...), true)
	expect(t, "Push of a nothing", marks.Push(struct{}{}), false)
}

func TestAll(t *testing.T) {
	q := queue(t, 5, 3, 1, 2)
	l := q.All()
	expect(t, "All", text(l), "3 1 2")
	expect(t, "All again", text(l), "3 1 2")
	expect(t, "Len", q.Len(), 3)
	q.Pop()
	q.Push(9)
	expect(t, "All later", text(l), "1 2 9")
	expect(t, "All of none", text(queue(t, 1).All()), "")
}

func TestAllIsLeft(t *testing.T) {
	q := queue(t, 5, 1, 2, 3, 4)
	l := q.All()
	for most := 1; most <= 4; most++ {
		seen := 0
		for x := range l {
			seen++
			expect(t, "All", x, seen)
			if seen == most {
				break
			}
		}
		expect(t, "left", seen, most)
		expect(t, "All after that", text(l), "1 2 3 4")
	}
}

func TestChangesInAllAreNotSeen(t *testing.T) {
	for pops := range 4 {
		q := queue(t, 9, 1, 2, 3)
		var got []int
		for x := range q.All() {
			got = append(got, x)
			for range pops {
				q.Pop()
			}
			q.Push(10*x, 10*x+1)
		}
		expect(t, "All", text(slices.Values(got)), "1 2 3")
		want := strings.Fields("1 2 3 10 11 20 21 30 31")
		if pops == 3 {
			want = strings.Fields("30 31")
		} else {
			want = want[3*pops:]
		}
		expect(t, "after that", text(q.All()), strings.Join(want, " "))
	}
}

func TestAllWithinAll(t *testing.T) {
	q := queue(t, 9, 1, 2, 3)
	got := ""
	for x := range q.All() {
		q.Push(q.Len() + 10)
		q.Pop()
		got += strconv.Itoa(x) + ": " + text(q.All()) + " | "
	}
	expect(t, "loops", got, "1: 2 3 13 | 2: 3 13 13 | 3: 13 13 13 | ")
}

func TestDrain(t *testing.T) {
	q := queue(t, 5, 3, 1, 2)
	l := q.Drain()
	expect(t, "nothing before the loop", q.Len(), 3)
	expect(t, "Drain", text(l), "3 1 2")
	expect(t, "Len", q.Len(), 0)
	expect(t, "Drain again", text(l), "")
	q.Push(8, 9)
	expect(t, "Drain later", text(l), "8 9")
	expect(t, "Len later", q.Len(), 0)
	expect(t, "Drain of none", text(queue(t, 1).Drain()), "")
}

func TestDrainRemovesBeforeItYields(t *testing.T) {
	q := queue(t, 3, 1, 2, 3)
	left := []string{"2 3", "3", ""}
	for x := range q.Drain() {
		expect(t, "what is left", text(q.All()), left[x-1])
		expect(t, "Len", q.Len(), 3-x)
	}
}

func TestDrainOfWhatIsPushed(t *testing.T) {
	q := queue(t, 2, 1, 2)
	var got []int
	for x := range q.Drain() {
		got = append(got, x)
		if x < 5 {
			expect(t, "Push", q.Push(x+2), true)
			expect(t, "Push beyond the room", q.Push(99), false)
		}
	}
	expect(t, "Drain", text(slices.Values(got)), "1 2 3 4 5 6")
	expect(t, "Len", q.Len(), 0)
}

func TestDrainIsLeft(t *testing.T) {
	for most := 1; most <= 4; most++ {
		q := queue(t, 4, 1, 2, 3, 4)
		seen := 0
		for x := range q.Drain() {
			seen++
			expect(t, "Drain", x, seen)
			if seen == most {
				break
			}
		}
		rest := strings.Join(strings.Fields("1 2 3 4")[most:], " ")
		expect(t, "the rest stays", text(q.All()), rest)
		expect(t, "Push", q.Push(make([]int, most)...), true)
		expect(t, "Push beyond the room", q.Push(9), false)
	}
}

func TestDrainWithinOthers(t *testing.T) {
	q := queue(t, 9, 1, 2, 3, 4, 5)
	got := ""
	for x := range q.Drain() {
		got += strconv.Itoa(x) + ": "
		for y := range q.Drain() {
			got += strconv.Itoa(y) + " "
			if y%2 == 0 {
				break
			}
		}
	}
	expect(t, "Drain within Drain", got, "1: 2 3: 4 5: ")
	q.Push(1, 2, 3)
	got = ""
	for x := range q.All() {
		got += strconv.Itoa(x) + ": " + text(q.Drain()) + " | "
	}
	expect(t, "Drain within All", got, "1: 1 2 3 | 2:  | 3:  | ")
	q.Push(1, 2, 3)
	got = ""
	for x := range q.Drain() {
		c := q.Clone()
		got += strconv.Itoa(x) + ": " + text(c.Drain()) + " | "
	}
	expect(t, "Drain of clones within Drain", got, "1: 2 3 | 2: 3 | 3:  | ")
}

// A panic of the loop's own body is the caller's: it must come through, and leave the queue whole.
func TestPanicOfLoopComesThrough(t *testing.T) {
	for _, c := range []struct {
		what, rest string
		loop       func(q *row.Queue[int]) iter.Seq[int]
	}{
		{"All", "1 2 3", (*row.Queue[int]).All},
		{"Drain", "2 3", (*row.Queue[int]).Drain},
	} {
		q := queue(t, 3, 1, 2, 3)
		caught := func() (what any) {
			defer func() { what = recover() }()
			for range c.loop(q) {
				panic("mine")
			}
			return nil
		}()
		expect(t, c.what, caught, any("mine"))
		expect(t, c.what+" leaves", text(q.All()), c.rest)
	}
}

// source is a sequence of the numbers from 1 on that counts what is done with it.
type source struct {
	end, begun, told, left int
}

func (s *source) all(yield func(int) bool) {
	s.begun++
	for i := 1; s.end == 0 || i <= s.end; i++ {
		s.told++
		if !yield(i) {
			s.left++
			return
		}
	}
}

func TestCollect(t *testing.T) {
	for _, c := range []struct {
		end, most int
		want      string
		after     source
	}{
		{5, 3, "1 2 3", source{5, 1, 3, 1}},
		{5, 1, "1", source{5, 1, 1, 1}},
		{5, 4, "1 2 3 4", source{5, 1, 4, 1}},
		{5, 5, "1 2 3 4 5", source{5, 1, 5, 1}},
		{5, 6, "1 2 3 4 5", source{5, 1, 5, 0}},
		{5, math.MaxInt, "1 2 3 4 5", source{5, 1, 5, 0}},
		{5, 0, "", source{5, 0, 0, 0}},
		{5, -1, "", source{5, 0, 0, 0}},
		{5, math.MinInt, "", source{5, 0, 0, 0}},
		{0, 2, "1 2", source{0, 1, 2, 1}},
	} {
		s := &source{end: c.end}
		what := "Collect " + strconv.Itoa(c.most) + " of " + strconv.Itoa(c.end)
		expect(t, what, text(slices.Values(row.Collect(s.all, c.most))), c.want)
		expect(t, what+": the sequence", *s, c.after)
	}
	expect(t, "Collect of none", len(row.Collect(slices.Values([]int(nil)), 9)), 0)
}

func TestCollectOfQueues(t *testing.T) {
	q := queue(t, 5, 1, 2, 3, 4, 5)
	expect(t, "All", text(slices.Values(row.Collect(q.All(), 2))), "1 2")
	expect(t, "All stays", q.Len(), 5)
	expect(t, "Drain of none", len(row.Collect(q.Drain(), 0)), 0)
	expect(t, "Drain", text(slices.Values(row.Collect(q.Drain(), 2))), "1 2")
	expect(t, "the rest stays", text(q.All()), "3 4 5")
	expect(t, "Drain of more", text(slices.Values(row.Collect(q.Drain(), 9))), "3 4 5")
	expect(t, "nothing stays", q.Len(), 0)
}

// A list that Collect answers is the caller's, with its spare capacity.
func TestCollectIsNew(t *testing.T) {
	q := queue(t, 5, 1, 2, 3, 4, 5)
	given := []int{1, 2, 3}
	a, b := row.Collect(q.All(), 5), row.Collect(q.All(), 5)
	c := row.Collect(slices.Values(given), 2)
	for _, l := range [][]int{a, c} {
		for i := range l[:cap(l)] {
			l[:cap(l)][i] = 99
		}
	}
	expect(t, "the queue", text(q.All()), "1 2 3 4 5")
	expect(t, "another list", text(slices.Values(b)), "1 2 3 4 5")
	expect(t, "what was given", text(slices.Values(given)), "1 2 3")
}

func TestCollectOfPanicEnds(t *testing.T) {
	got := row.Collect(func(yield func(int) bool) {
		yield(1)
		yield(2)
		panic("no more")
	}, 5)
	expect(t, "till the panic", text(slices.Values(got)), "1 2")
	got = row.Collect(func(yield func(int) bool) {
		for i := range 10 {
			yield(i)
		}
	}, 3)
	expect(t, "that can't be left", text(slices.Values(got)), "0 1 2")
	expect(t, "nil", len(row.Collect[int](nil, 3)), 0)
	expect(t, "nil that is not begun", len(row.Collect[int](nil, 0)), 0)
}

// steps makes the same numbers below most each time.
func steps(seed uint64, most int) func() int {
	return func() int {
		seed = seed*6364136223846793005 + 1442695040888963407
		return int(seed>>33) % most
	}
}

// pair is a queue and the same, told as simply as can be.
type pair struct {
	q     *row.Queue[int]
	plain []int
}

// step makes one change in both, and answers a clone of them.
func (p *pair) step(t *testing.T, room, kind, n, mark int) pair {
	t.Helper()
	switch {
	case kind < 5:
		l := make([]int, n)
		for i := range l {
			l[i] = 100*mark + i
		}
		fits := len(p.plain)+n <= room
		expect(t, "Push", p.q.Push(l...), fits)
		if fits {
			p.plain = append(slices.Clone(p.plain), l...)
		}
	case kind < 9:
		x, there := p.q.Pop()
		expect(t, "Pop there", there, len(p.plain) > 0)
		if there {
			expect(t, "Pop", x, p.plain[0])
			p.plain = p.plain[1:]
		}
	default:
		got := row.Collect(p.q.Drain(), n)
		k := min(n, len(p.plain))
		expect(t, "Drain", slices.Equal(got, p.plain[:k]), true)
		p.plain = p.plain[k:]
	}
	return pair{p.q.Clone(), p.plain}
}

func (p *pair) matches(t *testing.T) {
	t.Helper()
	expect(t, "Len", p.q.Len(), len(p.plain))
	expect(t, "All", text(p.q.All()), text(slices.Values(p.plain)))
	for i := -1; i <= len(p.plain); i++ {
		x, there := p.q.At(i)
		expect(t, "At there", there, i >= 0 && i < len(p.plain))
		if there {
			expect(t, "At", x, p.plain[i])
		}
	}
}

// Three queues, of which now and then one becomes a clone of another one.
func TestAgainstPlain(t *testing.T) {
	const room = 20
	for seed := range uint64(8) {
		next := steps(seed, 60)
		var l [3]pair
		for i := range l {
			l[i].q = queue(t, room)
		}
		for mark := range 1500 {
			i := next() % 3
			clone := l[i].step(t, room, next()%10, next()%7, mark)
			if next() < 10 {
				l[(i+1)%3] = clone
			}
			for j := range l {
				l[j].matches(t)
			}
		}
	}
}

// Each step must be cheap in a queue that is large, whatever loops and clones there are.
func TestLarge(t *testing.T) {
	const room = 65536
	q := queue(t, room)
	for i := range room {
		q.Push(i)
	}
	expect(t, "one more", q.Push(0), false)
	for i := range room {
		for x := range q.All() {
			expect(t, "All", x, i)
			break
		}
		c := q.Clone()
		expectPop(t, c, i)
		expectPop(t, q, i)
		expect(t, "Push", q.Push(room+i), true)
	}
	want := room
	for x := range q.Drain() {
		expect(t, "Drain", x, want)
		want++
	}
	expect(t, "drained", want, 2*room)
}
