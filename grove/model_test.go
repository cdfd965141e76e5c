package grove_test

import (
	"math/rand"
	"slices"
	"strings"
	"testing"

	"grove/api"
	"grove/grove"
)

// model is the document's words on trees and what looks at them, done by looks
// at all nodes.
type model struct {
	word      map[int]string
	kids      map[int][]int
	attr      map[int]map[string]string
	iterators []*walked
}

func newModel(words string) *model {
	m := &model{word: map[int]string{}, kids: map[int][]int{}, attr: map[int]map[string]string{}}
	for i, w := range strings.Fields(words) {
		m.word[i+1] = w
		m.attr[i+1] = map[string]string{}
	}
	return m
}

func (m *model) parent(n int) int {
	for p, kids := range m.kids {
		if slices.Contains(kids, n) {
			return p
		}
	}
	return 0
}

func (m *model) within(n, top int) bool {
	return n == top || slices.ContainsFunc(m.kids[top], func(k int) bool { return m.within(n, k) })
}

func (m *model) has(n int) bool { return m.word[n] != "" }

func (m *model) is(n int, words string) bool { return strings.Contains(words, m.word[n]) }

func (m *model) isElement(n int) bool { return !m.is(n, "/#!") }

func (m *model) put(parent, child, before int) api.Errno {
	switch {
	case !m.has(parent) || !m.has(child) || before != 0 && !m.has(before):
		return api.ErrNode
	case m.is(parent, "#!") || m.is(child, "/") || m.within(parent, child):
		return api.ErrPlace
	case before != 0 && !slices.Contains(m.kids[parent], before):
		return api.ErrBefore
	case m.is(parent, "/") && m.is(child, "#"):
		return api.ErrPlace
	case m.is(parent, "/") && m.isElement(child) && slices.ContainsFunc(m.kids[parent], func(k int) bool { return k != child && m.isElement(k) }):
		return api.ErrPlace
	}
	if before == child {
		behind := append(slices.Clone(m.kids[parent]), 0)
		before = behind[slices.Index(behind, child)+1]
	}
	m.take(child)
	at := len(m.kids[parent])
	if before != 0 {
		at = slices.Index(m.kids[parent], before)
	}
	m.kids[parent] = slices.Insert(m.kids[parent], at, child)
	return api.OK
}

func (m *model) take(node int) api.Errno {
	p := m.parent(node)
	switch {
	case !m.has(node):
		return api.ErrNode
	case p == 0:
		return api.ErrLoose
	}
	for _, w := range m.iterators {
		m.leave(w, node)
	}
	m.kids[p] = slices.DeleteFunc(m.kids[p], func(k int) bool { return k == node })
	return api.OK
}

// wantDrawnChange takes or puts a node, the same in the grove and in the model,
// of n nodes; wrong ones too.
func wantDrawnChange(t *testing.T, r *rand.Rand, g *grove.Grove, m *model, n int) {
	t.Helper()
	node, p := r.Intn(n+2), r.Intn(n+2)
	if r.Intn(6) == 0 {
		wantTake(t, g, node, m.take(node))
		return
	}
	before := append(slices.Clone(m.kids[p]), 0, 0)[r.Intn(len(m.kids[p])+2)]
	wantPut(t, g, p, node, before, m.put(p, node, before))
}

// P1, P4 and P5: long runs of drawn calls, wrong ones too, against the model.
func TestDrawnCallsAgainstModel(t *testing.T) {
	const words = "/ a # b ! c # / d ! e"
	r := rand.New(rand.NewSource(3))
	n := len(strings.Fields(words))
	seen := map[api.Errno]int{}
	for range 300 {
		g, m := plant(t, words), newModel(words)
		for range 100 {
			p, c, b := r.Intn(n+2), r.Intn(n+2), 0
			if kids := m.kids[p]; len(kids) > 0 && r.Intn(2) == 0 {
				b = kids[r.Intn(len(kids))]
			} else if r.Intn(4) == 0 {
				b = r.Intn(n + 2)
			}
			if r.Intn(5) == 0 {
				wantTake(t, g, c, m.take(c))
			} else {
				want := m.put(p, c, b)
				seen[want]++
				wantPut(t, g, p, c, b, want)
			}
		}
		for i := 1; i <= n; i++ {
			wantKids(t, g, i, m.kids[i]...)
			wantParent(t, g, i, m.parent(i))
		}
		if t.Failed() {
			return
		}
	}
	for _, err := range []api.Errno{api.OK, api.ErrNode, api.ErrPlace, api.ErrBefore} {
		if seen[err] < 100 {
			t.Errorf("the answer %d was drawn only %d times", err, seen[err])
		}
	}
}
