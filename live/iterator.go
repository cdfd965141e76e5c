package live

import (
	"grove/api"
	"grove/tree"
)

// Iterator goes on and back through what is within its root, in the order of
// the tree. Its methods take the forest that its root is in, always the same
// one.
type Iterator struct {
	root   int
	filter Filter
	// place is within root at any time: what is taken either has root within
	// it, or is left ahead of that.
	place int
	ahead bool
}

// NewIterator is an iterator ahead of its root.
func NewIterator(root int, filter Filter) Iterator {
	return Iterator{root: root, filter: filter, place: root, ahead: true}
}

// At tells the iterator's place, and whether it is ahead of it.
func (i *Iterator) At() (int, bool) { return i.place, i.ahead }

// Step goes past the next node that is accepted, on or back, and tells it; 0 if
// there is none, and the iterator stays.
func (i *Iterator) Step(f *tree.Forest, back bool) int {
	n := i.place
	// Ahead of its place and on the way back, or behind it and on the way on,
	// it has passed that already.
	if i.ahead == back {
		n = i.beside(f, n, back)
	}
	for n != 0 && i.filter.Says(f.Kind(n)) != api.Accept {
		n = i.beside(f, n, back)
	}
	if n != 0 {
		i.place, i.ahead = n, back
	}
	return n
}

// beside tells the neighbour of n in the order of the tree, 0 if there is none
// within root.
func (i *Iterator) beside(f *tree.Forest, n int, back bool) int {
	if back {
		return f.Previous(n, i.root)
	}
	return f.Next(n, i.root)
}

// Leave moves the iterator off all that is within a node, which is about to be
// taken out of where it stands; but not if its root goes along.
func (i *Iterator) Leave(f *tree.Forest, taken int) {
	if !f.Within(i.place, taken) || f.Within(i.root, taken) {
		return
	}
	if i.ahead {
		if n := f.Past(taken, i.root); n != 0 {
			i.place = n
			return
		}
		i.ahead = false
	}
	i.place = f.Previous(taken, i.root)
}
