package order

import "testing"

// rank is the plainest thing that can be ordered.
type rank int

func (a rank) Compare(b rank) int { return int(a - b) }

// height answers how many nodes lie on the longest way down, and fails if a size or a balance is wrong.
func height(t *testing.T, n *node[rank]) int {
	t.Helper()
	if n == nil {
		return 0
	}
	if n.size != n.before.count()+n.after.count()+1 {
		t.Fatalf("a node with %d and %d members at its sides has size %d", n.before.count(), n.after.count(), n.size)
	}
	if b, a := n.before.weight(), n.after.weight(); b > spread*a || a > spread*b {
		t.Fatalf("sides of weights %d and %d are not balanced", b, a)
	}
	return max(height(t, n.before), height(t, n.after)) + 1
}

// checkHeight asks for a tree that is no higher than balance allows: each step down leaves at most 3 of 4 parts of the weight.
func checkHeight(t *testing.T, s *Set[rank]) {
	t.Helper()
	most := 1
	for w := s.root.weight(); w > 2; w = w * spread / (spread + 1) {
		most++
	}
	if h := height(t, s.root); h > most {
		t.Fatalf("%d members at height %d", s.Len(), h)
	}
}

func TestBalance(t *testing.T) {
	const many = 600
	for name, nth := range map[string]func(i int) int{
		"rising":    func(i int) int { return i },
		"falling":   func(i int) int { return -i },
		"both ways": func(i int) int { return (i%2*2 - 1) * i },
		"mixed":     func(i int) int { return i * 7919 % 601 },
		"inward":    func(i int) int { return (i%2*2 - 1) * (many - i) },
	} {
		t.Run(name, func(t *testing.T) {
			s := New[rank]()
			for i := range many {
				s.Put(rank(nth(i)))
				checkHeight(t, s)
			}
			checkHeight(t, Meet(s, s))
			for i := range many {
				s.Drop(rank(nth((i*7 + 3) % many)))
				checkHeight(t, s)
			}
			if s.root != nil {
				t.Errorf("%d members are left", s.Len())
			}
		})
	}
}

func TestBalanceWhileEndsAreDropped(t *testing.T) {
	for name, index := range map[string]func(n int) int{
		"first":  func(n int) int { return 0 },
		"last":   func(n int) int { return n - 1 },
		"middle": func(n int) int { return n / 2 },
	} {
		t.Run(name, func(t *testing.T) {
			s := New[rank]()
			for i := range 600 {
				s.Put(rank(i))
			}
			for s.Len() > 0 {
				x, _ := s.At(index(s.Len()))
				s.Drop(x)
				checkHeight(t, s)
			}
		})
	}
}
