package grove_test

import (
	"math/rand"
	"slices"
	"strings"
	"testing"

	"grove/api"
)

func (m *model) set(node int, name, value string) api.Errno {
	switch {
	case !m.has(node):
		return api.ErrNode
	case !m.isElement(node):
		return api.ErrKind
	}
	m.attr[node][name] = value
	return api.OK
}

func (m *model) unset(node int, name string) api.Errno {
	switch {
	case !m.has(node):
		return api.ErrNode
	case !m.isElement(node):
		return api.ErrKind
	}
	if _, ok := m.attr[node][name]; !ok {
		return api.ErrNone
	}
	delete(m.attr[node], name)
	return api.OK
}

// under is all that is under a node, in the order of the tree.
func (m *model) under(n int) []int {
	var l []int
	for _, k := range m.kids[n] {
		l = append(append(l, k), m.under(k)...)
	}
	return l
}

// list is what a list has.
func (m *model) list(root, how int, what string) []int {
	l := m.under(root)
	if how == api.Elements || how == api.Nodes {
		l = slices.Clone(m.kids[root])
	}
	return slices.DeleteFunc(l, func(n int) bool {
		switch how {
		case api.ByTag:
			return !m.isElement(n) || what != "*" && what != m.word[n]
		case api.ByClass:
			return !slices.Contains(strings.Fields(m.attr[n]["class"]), what)
		case api.Elements:
			return !m.isElement(n)
		}
		return false
	})
}

// first is the first of some nodes that has one of the attributes with this
// value.
func (m *model) first(nodes []int, value string, names ...string) int {
	for _, n := range nodes {
		for _, name := range names {
			if v, ok := m.attr[n][name]; ok && v == value && value != "" {
				return n
			}
		}
	}
	return 0
}

type watched struct {
	root, how int
	what      string
}

func drawnWatches(r *rand.Rand, nodes int) []watched {
	l := make([]watched, 8)
	for i := range l {
		how := api.ByTag + i%4
		what := []string{"a", "b", "*"}[r.Intn(3)]
		if how == api.ByClass {
			what = []string{"x", "y"}[r.Intn(2)]
		}
		l[i] = watched{1 + r.Intn(nodes), how, what}
	}
	return l
}

// P6, P7 and P10: lists that are asked now and then, now more, now less, among
// drawn changes, against the model's looks at the whole tree.
func TestDrawnListsAgainstModel(t *testing.T) {
	const words = "/ a # b ! a a b b a"
	values := []string{"", "x", "y", "x y", " y  x", "xy"}
	r := rand.New(rand.NewSource(4))
	n := len(strings.Fields(words))
	found := 0
	for range 200 {
		g, m := plant(t, words), newModel(words)
		lists := drawnWatches(r, n)
		for i, l := range lists {
			wantWatch(t, g, l.root, l.how, l.what, i+1, api.OK)
		}
		for range 80 {
			node := r.Intn(n + 2)
			name := []string{"id", "name", "class"}[r.Intn(3)]
			value := values[r.Intn(len(values))]
			switch r.Intn(10) {
			case 0:
				wantTake(t, g, node, m.take(node))
			case 1:
				wantUnset(t, g, node, name, m.unset(node, name))
			case 2, 3, 4:
				wantSet(t, g, node, name, value, m.set(node, name, value))
			default:
				p := r.Intn(n + 2)
				wantPut(t, g, p, node, 0, m.put(p, node, 0))
			}
			for i, l := range lists {
				want := m.list(l.root, l.how, l.what)
				switch r.Intn(4) {
				case 0:
					wantList(t, g, i+1, want...)
					found += len(want)
				case 1:
					wantNamed(t, g, i+1, value, m.first(want, value, "id", "name"))
				}
			}
			root := 1 + r.Intn(n)
			wantById(t, g, root, value, m.first(m.under(root), value, "id"), api.OK)
			if t.Failed() {
				return
			}
		}
	}
	if found < 5000 {
		t.Errorf("the lists had only %d nodes in all", found)
	}
}
