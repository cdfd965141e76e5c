package tree

import "iter"

// place is where a node stands, by its neighbours' numbers; 0 where there is
// none. Kids are chained, so that none is looked for when one comes or goes.
type place struct {
	parent int
	ahead  int
	behind int
	first  int
	last   int
}

type node struct {
	place
	kind Kind
}

// Stamp counts the changes that a list may hang on: while it is the same, so
// is what stands where, and of what classes.
type Stamp struct {
	Places  int
	Classes int
}

// Forest is nodes with numbers from 1 on. But for Has, its methods take only
// numbers of nodes that it has; and 0 only where they say so.
type Forest struct {
	nodes []node
	stamp Stamp
}

// NewForest is a forest without nodes.
func NewForest() Forest {
	// The number 0 stands for no node: its entry is there only so that
	// numbers and indices are the same.
	return Forest{nodes: make([]node, 1)}
}

// Has tells whether there is a node of this number.
func (f *Forest) Has(n int) bool { return n >= 1 && n < len(f.nodes) }

// Count tells how many nodes there are.
func (f *Forest) Count() int { return len(f.nodes) - 1 }

// Add makes a node which stands nowhere, and tells its number.
func (f *Forest) Add(k Kind) int {
	f.nodes = append(f.nodes, node{kind: k})
	return f.Count()
}

// Stamp is the stamp of now.
func (f *Forest) Stamp() Stamp { return f.stamp }

// Kind tells what a node is.
func (f *Forest) Kind(n int) Kind { return f.nodes[n].kind }

// Element is the node as an element, nil if it is none.
func (f *Forest) Element(n int) *Element {
	switch k := f.Kind(n).(type) {
	case *Element:
		return k
	}
	return nil
}

// Set gives an element an attribute, in place of the one of this name.
func (f *Forest) Set(n int, name, value string) {
	f.Element(n).attributes[name] = attribute{value: value}
	f.count(name)
}

// Unset takes an attribute from an element.
func (f *Forest) Unset(n int, name string) {
	delete(f.Element(n).attributes, name)
	f.count(name)
}

// count notes that an attribute of this name was changed.
func (f *Forest) count(name string) {
	if name == classes {
		f.stamp.Classes++
	}
}

// Parent tells under what a node stands, 0 if under nothing.
func (f *Forest) Parent(n int) int { return f.nodes[n].parent }

// First tells a node's first kid, 0 if it has none.
func (f *Forest) First(n int) int { return f.nodes[n].first }

// Last tells a node's last kid, 0 if it has none.
func (f *Forest) Last(n int) int { return f.nodes[n].last }

// Ahead tells the kid directly ahead of this one, 0 if there is none.
func (f *Forest) Ahead(n int) int { return f.nodes[n].ahead }

// Behind tells the kid directly behind this one, 0 if there is none.
func (f *Forest) Behind(n int) int { return f.nodes[n].behind }

// Kids is a new list of a node's kids.
func (f *Forest) Kids(n int) []int {
	var kids []int
	for k := f.First(n); k != 0; k = f.Behind(k) {
		kids = append(kids, k)
	}
	return kids
}

// Next tells what stands behind n in the order of the tree; 0 if nothing does,
// or if top is come to on the way up from n, which may be outside of it.
func (f *Forest) Next(n, top int) int {
	if k := f.First(n); k != 0 {
		return k
	}
	return f.Past(n, top)
}

// Past tells what stands behind all that is within n in the order of the tree;
// 0 if nothing does, or if top is come to on the way up from n, which may be
// outside of it.
func (f *Forest) Past(n, top int) int {
	for n != 0 && n != top {
		if b := f.Behind(n); b != 0 {
			return b
		}
		n = f.Parent(n)
	}
	return 0
}

// Previous tells what stands ahead of n in the order of the tree, of what is
// within top, as n is; 0 if nothing does.
func (f *Forest) Previous(n, top int) int {
	if n == top {
		return 0
	}
	a := f.Ahead(n)
	if a == 0 {
		return f.Parent(n)
	}
	for k := a; k != 0; k = f.Last(k) {
		a = k
	}
	return a
}

// Under goes through all that is under a node, in the order of the tree.
func (f *Forest) Under(top int) iter.Seq[int] {
	return func(yield func(int) bool) {
		for n := f.Next(top, top); n != 0 && yield(n); {
			n = f.Next(n, top)
		}
	}
}

// ById tells the first element under top whose attribute id is this one, 0 if
// there is none. An empty text is nobody's id.
func (f *Forest) ById(top int, id string) int {
	if id == "" {
		return 0
	}
	for n := range f.Under(top) {
		if e := f.Element(n); e != nil && e.Is("id", id) {
			return n
		}
	}
	return 0
}

// Within tells whether n is top itself or stands somewhere under it.
func (f *Forest) Within(n, top int) bool {
	for n != 0 && n != top {
		n = f.Parent(n)
	}
	return n == top
}

// Insert puts child, which stands nowhere, under parent: just ahead of
// before, which stands there, or behind all others if that is 0.
func (f *Forest) Insert(parent, child, before int) {
	ahead := f.Last(parent)
	if before != 0 {
		ahead = f.Ahead(before)
	}
	f.nodes[child].parent = parent
	f.join(parent, ahead, child)
	f.join(parent, child, before)
	f.stamp.Places++
}

// Remove takes a node which has a parent out from under it.
func (f *Forest) Remove(n int) {
	p := f.nodes[n].place
	f.join(p.parent, p.ahead, p.behind)
	f.nodes[n].place = place{first: p.first, last: p.last}
	f.stamp.Places++
}

// join makes two kids of parent neighbours. 0 is the end of the chain, which
// the parent holds.
func (f *Forest) join(parent, ahead, behind int) {
	if ahead == 0 {
		f.nodes[parent].first = behind
	} else {
		f.nodes[ahead].behind = behind
	}
	if behind == 0 {
		f.nodes[parent].last = ahead
	} else {
		f.nodes[behind].ahead = ahead
	}
}
