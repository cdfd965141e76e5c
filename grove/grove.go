// Package grove: trees that change, lists and walks in them: see DOC.md.
package grove

import (
	"grove/api"
	"grove/live"
	"grove/tree"
)

// Grove is nodes, and what looks at them.
type Grove struct {
	forest    tree.Forest
	lists     []live.List
	iterators []live.Iterator
	walkers   []live.Walker
}

// New makes an empty grove (P3).
func New() *Grove { return &Grove{forest: tree.NewForest()} }

// Make makes a node (P3).
func (g *Grove) Make(kind int, text string) (int, api.Errno) {
	k, err := tree.NewKind(kind, text)
	if err != api.OK {
		return 0, err
	}
	if g.forest.Count() >= api.MaxNodes {
		return 0, api.ErrFull
	}
	return g.forest.Add(k), api.OK
}

// Put puts a node under another one (P4).
func (g *Grove) Put(parent int, child int, before int) api.Errno {
	if err := g.mayPut(parent, child, before); err != api.OK {
		return err
	}
	if before == child {
		// Child is about to leave its place, so it can't mark one.
		before = g.forest.Behind(child)
	}
	if g.forest.Parent(child) != 0 {
		g.takeOut(child)
	}
	g.forest.Insert(parent, child, before)
	return api.OK
}

// Take takes a node out of where it stands (P4).
func (g *Grove) Take(node int) api.Errno {
	if !g.forest.Has(node) {
		return api.ErrNode
	}
	if g.forest.Parent(node) == 0 {
		return api.ErrLoose
	}
	g.takeOut(node)
	return api.OK
}

// takeOut takes a node which has a parent out from under it.
func (g *Grove) takeOut(node int) {
	// Iterators find their new places in the tree as it was.
	for i := range g.iterators {
		g.iterators[i].Leave(&g.forest, node)
	}
	g.forest.Remove(node)
}

// Kids tells what stands under a node (P5).
func (g *Grove) Kids(node int) ([]int, api.Errno) {
	if !g.forest.Has(node) {
		return nil, api.ErrNode
	}
	return g.forest.Kids(node), api.OK
}

// Parent tells under what a node stands (P5).
func (g *Grove) Parent(node int) (int, api.Errno) {
	if !g.forest.Has(node) {
		return 0, api.ErrNode
	}
	return g.forest.Parent(node), api.OK
}

// Set gives an element an attribute (P6).
func (g *Grove) Set(node int, name string, value string) api.Errno {
	if err := g.mayHave(node, name); err != api.OK {
		return err
	}
	if len(value) > api.MaxData {
		return api.ErrLong
	}
	g.forest.Set(node, name, value)
	return api.OK
}

// Unset takes one away (P6).
func (g *Grove) Unset(node int, name string) api.Errno {
	if err := g.mayHave(node, name); err != api.OK {
		return err
	}
	if !g.forest.Element(node).Has(name) {
		return api.ErrNone
	}
	g.forest.Unset(node, name)
	return api.OK
}

// mayHave asks whether the node may have an attribute of this name.
func (g *Grove) mayHave(node int, name string) api.Errno {
	if !g.forest.Has(node) {
		return api.ErrNode
	}
	if g.forest.Element(node) == nil {
		return api.ErrKind
	}
	if !tree.IsName(name) {
		return api.ErrName
	}
	return api.OK
}

// ById tells the first element with an id (P6).
func (g *Grove) ById(root int, id string) (int, api.Errno) {
	if !g.forest.Has(root) {
		return 0, api.ErrNode
	}
	return g.forest.ById(root, id), api.OK
}

// Watch makes a live list (P7).
func (g *Grove) Watch(root int, how int, what string) (int, api.Errno) {
	if !g.forest.Has(root) {
		return 0, api.ErrNode
	}
	l, err := live.NewList(root, how, what)
	if err != api.OK {
		return 0, err
	}
	if len(g.lists) >= api.MaxThings {
		return 0, api.ErrFull
	}
	g.lists = append(g.lists, l)
	return len(g.lists), api.OK
}

// numbered is the thing of this number, from 1 on; nil if there is none.
func numbered[T any](things []T, n int) *T {
	if n < 1 || n > len(things) {
		return nil
	}
	return &things[n-1]
}

// Len tells how many nodes a list has (P7).
func (g *Grove) Len(list int) (int, api.Errno) {
	l := numbered(g.lists, list)
	if l == nil {
		return 0, api.ErrThing
	}
	return l.Len(&g.forest), api.OK
}

// Item tells a node of a list (P7).
func (g *Grove) Item(list int, i int) (int, api.Errno) {
	l := numbered(g.lists, list)
	if l == nil {
		return 0, api.ErrThing
	}
	return l.Item(&g.forest, i), api.OK
}

// Named tells the first node of a list that has a name (P7).
func (g *Grove) Named(list int, name string) (int, api.Errno) {
	l := numbered(g.lists, list)
	if l == nil {
		return 0, api.ErrThing
	}
	return l.Named(&g.forest, name), api.OK
}

// Iter makes an iterator (P8).
func (g *Grove) Iter(root int, show int, rules []api.Rule) (int, api.Errno) {
	f, err := g.mayFilter(root, show, rules, len(g.iterators))
	if err != api.OK {
		return 0, err
	}
	g.iterators = append(g.iterators, live.NewIterator(root, f))
	return len(g.iterators), api.OK
}

// mayFilter is the filter for one more thing at root, of which there are count;
// or what forbids it.
func (g *Grove) mayFilter(root int, show int, rules []api.Rule, count int) (live.Filter, api.Errno) {
	if !g.forest.Has(root) {
		return live.Filter{}, api.ErrNode
	}
	f, err := live.NewFilter(show, rules)
	if err != api.OK {
		return live.Filter{}, err
	}
	if count >= api.MaxThings {
		return live.Filter{}, api.ErrFull
	}
	return f, api.OK
}

// Step steps an iterator (P8).
func (g *Grove) Step(iter int, back bool) (int, api.Errno) {
	i := numbered(g.iterators, iter)
	if i == nil {
		return 0, api.ErrThing
	}
	return i.Step(&g.forest, back), api.OK
}

// At tells where an iterator is (P8).
func (g *Grove) At(iter int) (int, bool, api.Errno) {
	i := numbered(g.iterators, iter)
	if i == nil {
		return 0, false, api.ErrThing
	}
	place, ahead := i.At()
	return place, ahead, api.OK
}

// Walker makes a walker (P9).
func (g *Grove) Walker(root int, show int, rules []api.Rule) (int, api.Errno) {
	f, err := g.mayFilter(root, show, rules, len(g.walkers))
	if err != api.OK {
		return 0, err
	}
	g.walkers = append(g.walkers, live.NewWalker(root, f))
	return len(g.walkers), api.OK
}

// Move moves a walker (P9).
func (g *Grove) Move(walker int, how int) (int, api.Errno) {
	w := numbered(g.walkers, walker)
	if w == nil {
		return 0, api.ErrThing
	}
	return w.Move(&g.forest, how)
}

// Here tells where a walker is (P9).
func (g *Grove) Here(walker int) (int, api.Errno) {
	w := numbered(g.walkers, walker)
	if w == nil {
		return 0, api.ErrThing
	}
	return w.Here(), api.OK
}

// Go sets a walker somewhere (P9).
func (g *Grove) Go(walker int, node int) api.Errno {
	w := numbered(g.walkers, walker)
	if w == nil {
		return api.ErrThing
	}
	if !g.forest.Has(node) {
		return api.ErrNode
	}
	w.Go(node)
	return api.OK
}
