package row

import (
	"runtime"
	"testing"
	"weak"
)

// filled makes a queue with as many values as there is room for.
func filled(t *testing.T) *Queue[int] {
	t.Helper()
	q, _ := New[int](mostRoom)
	if !q.Push(make([]int, mostRoom)...) {
		t.Fatal("no room")
	}
	return q
}

// The slots of popped values must not come to more than the others, but the others must not be moved all the time for that.
func TestSlots(t *testing.T) {
	q := filled(t)
	moved := 0
	for q.Len() > 0 {
		q.Pop()
		if q.popped > len(q.values) {
			t.Fatalf("%d slots are held for %d values", q.popped, len(q.values))
		}
		if q.popped == 0 {
			moved++
		}
	}
	if moved > 17 {
		t.Errorf("moved %d times, and not only as often as %d can be halved", moved, mostRoom)
	}
	if q.values != nil {
		t.Error("slots are held for no values")
	}
}

func TestSlotsOfClone(t *testing.T) {
	q := filled(t)
	for range mostRoom / 3 {
		q.Pop()
	}
	if c := q.Clone(); c.popped != q.popped {
		t.Errorf("%d slots, of which the clone counts %d", q.popped, c.popped)
	}
}

func TestPoppedIsNotHeld(t *testing.T) {
	type thing struct{ bytes [64]byte }
	q, _ := New[*thing](100)
	var held []weak.Pointer[thing]
	for range 100 {
		x := &thing{}
		held = append(held, weak.Make(x))
		q.Push(x)
	}
	for range 51 {
		q.Pop()
	}
	runtime.GC()
	for i, p := range held {
		if there := p.Value() != nil; there != (i >= 51) {
			t.Errorf("value %d of 100 is held: %v", i, there)
		}
	}
	runtime.KeepAlive(q)
}
