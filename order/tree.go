package order

import "ponder/api"

// A tree is balanced if of the two sides of each node none is more than spread times as heavy as the other. A side that became too heavy is turned: once, if its inner part is less than inward times as heavy as its outer one, twice otherwise. (With 3 and 2 one pass mends all that one insertion or removal did.)
const (
	spread = 3
	inward = 2
)

// node is a member between those before it and those after it; nil is the empty tree. What a node has never changes: so a loop, or a clone, keeps the tree that it began with while the set goes on to another one.
type node[T api.Ordered[T]] struct {
	member        T
	before, after *node[T]
	size          int
}

// count answers the number of members.
func (n *node[T]) count() int {
	if n == nil {
		return 0
	}
	return n.size
}

// weight is what balance goes by: an empty tree weighs something too.
func (n *node[T]) weight() int {
	return n.count() + 1
}

// find answers how many members are less than x, and whether one is equal to it. It alone calls Compare; ok is false if that panicked, since then x has no place.
func (n *node[T]) find(x T) (place int, there, ok bool) {
	defer func() {
		if recover() != nil {
			place, there, ok = 0, false, false
		}
	}()
	for n != nil {
		switch c := x.Compare(n.member); {
		case c < 0:
			n = n.before
		case c > 0:
			place += n.before.count() + 1
			n = n.after
		default:
			return place + n.before.count(), true, true
		}
	}
	return place, false, true
}

// at answers the member with index i, which must exist.
func (n *node[T]) at(i int) T {
	for {
		k := n.before.count()
		switch {
		case i < k:
			n = n.before
		case i > k:
			i -= k + 1
			n = n.after
		default:
			return n.member
		}
	}
}

// insert makes a tree in which x has the index i, which is at most the number of members.
func (n *node[T]) insert(i int, x T) *node[T] {
	if n == nil {
		return link(nil, x, nil)
	}
	k := n.before.count()
	if i <= k {
		return balance(n.before.insert(i, x), n.member, n.after)
	}
	return balance(n.before, n.member, n.after.insert(i-k-1, x))
}

// remove makes a tree without the member with index i, which must exist.
func (n *node[T]) remove(i int) *node[T] {
	k := n.before.count()
	switch {
	case i < k:
		return balance(n.before.remove(i), n.member, n.after)
	case i > k:
		return balance(n.before, n.member, n.after.remove(i-k-1))
	case n.after == nil:
		return n.before
	}
	return balance(n.before, n.after.at(0), n.after.remove(0))
}

// rise yields the members from index i on, and answers false if the loop was left.
func (n *node[T]) rise(i int, yield func(T) bool) bool {
	if i >= n.count() {
		return true
	}
	k := n.before.count()
	if i < k && !n.before.rise(i, yield) {
		return false
	}
	if i <= k && !yield(n.member) {
		return false
	}
	return n.after.rise(max(i-k-1, 0), yield)
}

// fall yields the members from the last one on, and answers false if the loop was left.
func (n *node[T]) fall(yield func(T) bool) bool {
	return n == nil || n.after.fall(yield) && yield(n.member) && n.before.fall(yield)
}

// grow makes a balanced tree of members that are in order.
func grow[T api.Ordered[T]](l []T) *node[T] {
	if len(l) == 0 {
		return nil
	}
	m := len(l) / 2
	return link(grow(l[:m]), l[m], grow(l[m+1:]))
}

// link makes the tree of x between two trees that are balanced with each other.
func link[T api.Ordered[T]](before *node[T], x T, after *node[T]) *node[T] {
	return &node[T]{member: x, before: before, after: after, size: before.count() + after.count() + 1}
}

// balance makes the tree of x between two trees of which one has just gained or lost a member.
func balance[T api.Ordered[T]](before *node[T], x T, after *node[T]) *node[T] {
	switch {
	case after.weight() > spread*before.weight():
		return turnDown(before, x, after)
	case before.weight() > spread*after.weight():
		return turnUp(before, x, after)
	}
	return link(before, x, after)
}

// turnDown moves x below the first part of after, which is too heavy.
func turnDown[T api.Ordered[T]](before *node[T], x T, after *node[T]) *node[T] {
	inner, outer := after.before, after.after
	if inner.weight() < inward*outer.weight() {
		return link(link(before, x, inner), after.member, outer)
	}
	return link(link(before, x, inner.before), inner.member, link(inner.after, after.member, outer))
}

// turnUp moves x below the last part of before, which is too heavy.
func turnUp[T api.Ordered[T]](before *node[T], x T, after *node[T]) *node[T] {
	inner, outer := before.after, before.before
	if inner.weight() < inward*outer.weight() {
		return link(outer, before.member, link(inner, x, after))
	}
	return link(link(outer, before.member, inner.before), inner.member, link(inner.after, x, after))
}
