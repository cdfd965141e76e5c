// Package live: what looks at a forest and lives on while that changes.
package live

import (
	"slices"
	"strings"

	"grove/api"
	"grove/tree"
)

// allTags stands for any tag.
const allTags = "*"

// List has at any time the nodes that a look at the whole tree would find.
// Its methods take the forest that its root is in, always the same one.
type List struct {
	root int
	how  int
	what string
	// found is what there was at the time of stamp. The first stamp of all is
	// that of a forest where nothing stands: a list that has not looked yet
	// is right in it.
	found []int
	stamp tree.Stamp
}

// NewList is a list of this kind of nodes under root, or what forbids it.
func NewList(root, how int, what string) (List, api.Errno) {
	switch how {
	case api.ByTag:
		if what != allTags && !tree.IsName(what) {
			return List{}, api.ErrName
		}
	case api.ByClass:
		if what == "" || strings.Contains(what, " ") {
			return List{}, api.ErrName
		}
	case api.Elements, api.Nodes:
	default:
		return List{}, api.ErrKind
	}
	if len(what) > api.MaxData {
		return List{}, api.ErrLong
	}
	return List{root: root, how: how, what: what}, api.OK
}

// Len tells how many nodes the list has.
func (l *List) Len(f *tree.Forest) int { return len(l.nodes(f)) }

// Item tells the i-th node, from 0 on; 0 if there is none.
func (l *List) Item(f *tree.Forest, i int) int {
	nodes := l.nodes(f)
	if i < 0 || i >= len(nodes) {
		return 0
	}
	return nodes[i]
}

// Named tells the first element with this id or name, 0 if there is none. An
// empty text names nothing.
func (l *List) Named(f *tree.Forest, name string) int {
	if name == "" {
		return 0
	}
	for _, n := range l.nodes(f) {
		if e := f.Element(n); e != nil && (e.Is("id", name) || e.Is("name", name)) {
			return n
		}
	}
	return 0
}

// nodes is what the list has now.
func (l *List) nodes(f *tree.Forest) []int {
	if now := l.now(f); l.stamp != now {
		l.found, l.stamp = l.look(f), now
	}
	return l.found
}

// now is the stamp of now, without what this list does not hang on.
func (l *List) now(f *tree.Forest) tree.Stamp {
	s := f.Stamp()
	if l.how != api.ByClass {
		s.Classes = 0
	}
	return s
}

// look finds the list's nodes in the tree as it is.
func (l *List) look(f *tree.Forest) []int {
	var nodes []int
	switch l.how {
	case api.ByTag, api.ByClass:
		nodes = slices.Collect(f.Under(l.root))
	case api.Elements, api.Nodes:
		nodes = f.Kids(l.root)
	}
	return slices.DeleteFunc(nodes, func(n int) bool { return !l.wants(f, n) })
}

// wants tells whether a node that stands where the list looks is one of it.
func (l *List) wants(f *tree.Forest, n int) bool {
	e := f.Element(n)
	switch l.how {
	case api.ByTag:
		return e != nil && (l.what == allTags || l.what == e.Tag)
	case api.ByClass:
		return e != nil && e.HasClass(l.what)
	case api.Elements:
		return e != nil
	}
	return true
}
