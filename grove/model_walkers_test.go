package grove_test

import (
	"math/rand"
	"slices"
	"strings"
	"testing"

	"grove/api"
)

// rover is a walker of the model.
type rover struct {
	sieve
	root, here int
}

// barrier stands in a list of nodes where a look at them ends.
const barrier = 0

// up is what a node stands under, from its parent on.
func (m *model) up(n int) []int {
	var l []int
	for p := m.parent(n); p != 0; p = m.parent(p) {
		l = append(l, p)
	}
	return l
}

// turned is the list from the last one on, if back is so.
func turned(l []int, back bool) []int {
	l = slices.Clone(l)
	if back {
		slices.Reverse(l)
	}
	return l
}

// flat is the accepted ones of some nodes, with those under one that is skipped
// in its place; and a barrier where this leads out of root.
func (m *model) flat(v *rover, nodes []int, back bool) []int {
	var l []int
	for _, n := range turned(nodes, back) {
		switch m.verdict(v.sieve, n) {
		case api.Accept:
			l = append(l, n)
		case api.Skip:
			l = append(l, m.flat(v, m.kids[n], back)...)
			if n == v.root && len(m.kids[n]) > 0 {
				l = append(l, barrier)
			}
		}
	}
	return l
}

// firstOf is the first of a list, 0 if it has none.
func firstOf(l []int) int { return append(l, 0)[0] }

func (m *model) toParent(v *rover) int {
	l := m.up(v.here)
	if m.within(v.here, v.root) {
		l = l[:slices.Index(append([]int{v.here}, l...), v.root)]
	}
	return firstOf(slices.DeleteFunc(l, func(n int) bool { return !m.accepts(v.sieve, n) }))
}

func (m *model) toSibling(v *rover, back bool) int {
	for n := v.here; n != v.root; {
		p := m.parent(n)
		i := slices.Index(m.kids[p], n)
		if i < 0 {
			return 0
		}
		beside := m.kids[p][i+1:]
		if back {
			beside = m.kids[p][:i]
		}
		if l := m.flat(v, beside, back); len(l) > 0 {
			return l[0]
		}
		if m.accepts(v.sieve, p) {
			return 0
		}
		n = p
	}
	return 0
}

// hidden tells whether n stands under one that is rejected, but for those that
// where the walker is stands under, or is.
func (m *model) hidden(v *rover, n int) bool {
	return slices.ContainsFunc(m.up(n), func(p int) bool {
		return m.verdict(v.sieve, p) == api.Reject && !m.within(v.here, p)
	})
}

// whole is the whole tree of a node, cut at it: all ahead of it in the tree's
// order, and all behind.
func (m *model) whole(n int) ([]int, []int) {
	top := append([]int{n}, m.up(n)...)
	l := m.all(top[len(top)-1])
	at := slices.Index(l, n)
	return l[:at], l[at+1:]
}

func (m *model) toOn(v *rover) int {
	_, behind := m.whole(v.here)
	in := m.within(v.here, v.root)
	for _, n := range behind {
		if m.hidden(v, n) {
			continue
		}
		if in && !m.within(n, v.root) {
			return 0
		}
		if m.accepts(v.sieve, n) {
			return n
		}
		in = in || n == v.root
	}
	return 0
}

func (m *model) toBack(v *rover) int {
	if v.here == v.root {
		return 0
	}
	ahead, _ := m.whole(v.here)
	for _, n := range turned(ahead, true) {
		if m.hidden(v, n) {
			continue
		}
		if m.accepts(v.sieve, n) {
			return n
		}
		if n != v.root {
			continue
		}
		// Come to from below it is the end; from beside only if it is the
		// first.
		below := m.within(v.here, n) || len(m.kids[n]) > 0 && m.verdict(v.sieve, n) == api.Skip
		if below || firstOf(m.kids[m.parent(n)]) == n {
			return 0
		}
	}
	return 0
}

func (m *model) move(v *rover, how int) int {
	n := 0
	switch how {
	case api.ToParent:
		n = m.toParent(v)
	case api.ToFirst, api.ToLast:
		n = firstOf(m.flat(v, m.kids[v.here], how == api.ToLast))
	case api.ToPrevious, api.ToNext:
		n = m.toSibling(v, how == api.ToPrevious)
	case api.Back:
		n = m.toBack(v)
	case api.On:
		n = m.toOn(v)
	}
	if n != 0 {
		v.here = n
	}
	return n
}

// P9: walkers that move now and then among drawn changes, or are set anywhere,
// against the model's looks at the whole tree.
func TestDrawnWalkersAgainstModel(t *testing.T) {
	const words = "/ a # b ! a d b c a"
	r := rand.New(rand.NewSource(6))
	n := len(strings.Fields(words))
	inside, outside, vain := [8]int{}, [8]int{}, [8]int{}
	for range 1000 {
		g, m := plant(t, words), newModel(words)
		rovers := make([]*rover, 6)
		for i := range rovers {
			v := &rover{drawnSieve(r), 1 + r.Intn(n), 0}
			v.here = v.root
			rovers[i] = v
			wantWalker(t, g, v.root, v.show, v.rules, i+1, api.OK)
		}
		for range 60 {
			wantDrawnChange(t, r, g, m, n)
			for i, v := range rovers {
				wantHere(t, g, i+1, v.here)
				if r.Intn(4) == 0 {
					v.here = 1 + r.Intn(n)
					wantGo(t, g, i+1, v.here, api.OK)
				}
				how := api.ToParent + r.Intn(7)
				was, in := *v, m.within(v.here, v.root)
				want := m.move(v, how)
				wantMove(t, g, i+1, how, want)
				switch {
				case want == 0:
					vain[how]++
				case in:
					inside[how]++
				default:
					outside[how]++
				}
				if t.Failed() {
					t.Fatalf("%v, move %d, kids %v", was, how, m.kids)
				}
			}
		}
	}
	for how := api.ToParent; how <= api.On; how++ {
		if min(inside[how], outside[how], vain[how]) < 500 {
			t.Errorf("the move %d found a node %d times within the root and %d times from outside, and none %d times", how, inside[how], outside[how], vain[how])
		}
	}
}
