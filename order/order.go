// Package order: ordered sets of values that have a Compare method.
package order

import (
	"iter"

	"ponder/api"
)

// Set holds values of which no two are equal, in the order of Compare.
type Set[T api.Ordered[T]] struct {
	root *node[T]
}

// New makes the set of the values l; of several equal ones the first counts.
func New[T api.Ordered[T]](l ...T) *Set[T] {
	s := &Set[T]{}
	for _, x := range l {
		s.Put(x)
	}
	return s
}

// Put adds x, and answers false if a member is equal to it, which then stays.
func (s *Set[T]) Put(x T) bool {
	root := s.root
	place, there, ok := root.find(x)
	if there || !ok {
		return false
	}
	s.root = root.insert(place, x)
	return true
}

// Drop removes the member that is equal to x, and answers whether there was one.
func (s *Set[T]) Drop(x T) bool {
	root := s.root
	place, there, _ := root.find(x)
	if !there {
		return false
	}
	s.root = root.remove(place)
	return true
}

// Get answers the member that is equal to x.
func (s *Set[T]) Get(x T) (T, bool) {
	root := s.root
	place, there, _ := root.find(x)
	if !there {
		return *new(T), false
	}
	return root.at(place), true
}

// Place answers how many members are less than x, and whether one is equal to it.
func (s *Set[T]) Place(x T) (int, bool) {
	place, there, _ := s.root.find(x)
	return place, there
}

// At answers the member with index i, counted from 0.
func (s *Set[T]) At(i int) (T, bool) {
	if i < 0 || i >= s.Len() {
		return *new(T), false
	}
	return s.root.at(i), true
}

// Len answers the number of members.
func (s *Set[T]) Len() int {
	return s.root.count()
}

// All yields the members in order, as they are when the loop begins.
func (s *Set[T]) All() iter.Seq[T] {
	return func(yield func(T) bool) {
		s.root.rise(0, yield)
	}
}

// From yields, in order, the members that are not less than x when the loop begins.
func (s *Set[T]) From(x T) iter.Seq[T] {
	return func(yield func(T) bool) {
		root := s.root
		if place, _, ok := root.find(x); ok {
			root.rise(place, yield)
		}
	}
}

// Back yields the members, the last one first, as they are when the loop begins.
func (s *Set[T]) Back() iter.Seq[T] {
	return func(yield func(T) bool) {
		s.root.fall(yield)
	}
}

// Clone makes another set with the same members.
func (s *Set[T]) Clone() *Set[T] {
	return &Set[T]{root: s.root}
}

// Union makes the set of the members of a and of b; of two equal ones that of a.
func Union[T api.Ordered[T]](a, b *Set[T]) *Set[T] {
	s := a.Clone()
	for x := range b.All() {
		s.Put(x)
	}
	return s
}

// Meet makes the set of those members of a that are equal to one of b.
func Meet[T api.Ordered[T]](a, b *Set[T]) *Set[T] {
	return part(a, b, true)
}

// Less makes the set of those members of a that are equal to none of b.
func Less[T api.Ordered[T]](a, b *Set[T]) *Set[T] {
	return part(a, b, false)
}

// part makes the set of those members of a of which "b has an equal one" is what has says.
func part[T api.Ordered[T]](a, b *Set[T], has bool) *Set[T] {
	var l []T
	for x := range a.All() {
		if _, there := b.Place(x); there == has {
			l = append(l, x)
		}
	}
	return &Set[T]{root: grow(l)}
}

// Same tells whether both sets have the same members, by Compare.
func Same[T api.Ordered[T]](a, b *Set[T]) bool {
	if a.Len() != b.Len() {
		return false
	}
	for x := range a.All() {
		if _, there := b.Place(x); !there {
			return false
		}
	}
	return true
}
