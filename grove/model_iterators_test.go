package grove_test

import (
	"math/rand"
	"slices"
	"strings"
	"testing"

	"grove/api"
)

// sieve is a filter of the model.
type sieve struct {
	show  int
	rules []api.Rule
}

// walked is an iterator of the model.
type walked struct {
	sieve
	root  int
	place int
	ahead bool
}

// all is all that is within a node, in the order of the tree.
func (m *model) all(n int) []int { return append([]int{n}, m.under(n)...) }

func (m *model) verdict(s sieve, n int) int {
	if s.show&(1<<kindOf(m.word[n])) == 0 {
		return api.Skip
	}
	i := slices.IndexFunc(s.rules, func(r api.Rule) bool { return m.isElement(n) && r.Name == m.word[n] })
	if i < 0 {
		return api.Accept
	}
	return s.rules[i].Verdict
}

func (m *model) accepts(s sieve, n int) bool { return m.verdict(s, n) == api.Accept }

// step takes the iterator for a gap in the list of all that is within its root.
func (m *model) step(w *walked, back bool) int {
	l := m.all(w.root)
	gap := slices.Index(l, w.place)
	if !w.ahead {
		gap++
	}
	l = l[gap:]
	if back {
		l = m.all(w.root)[:gap]
		slices.Reverse(l)
	}
	for _, n := range l {
		if m.accepts(w.sieve, n) {
			w.place, w.ahead = n, back
			return n
		}
	}
	return 0
}

// leave is what becomes of an iterator ahead of a removal.
func (m *model) leave(w *walked, taken int) {
	if !m.within(w.place, taken) || m.within(w.root, taken) {
		return
	}
	l := m.all(w.root)
	if end := slices.Index(l, taken) + len(m.all(taken)); w.ahead && end < len(l) {
		w.place = l[end]
		return
	}
	w.ahead = false
	w.place = m.parent(taken)
	if i := slices.Index(m.kids[w.place], taken); i > 0 {
		l := m.all(m.kids[w.place][i-1])
		w.place = l[len(l)-1]
	}
}

func drawnSieve(r *rand.Rand) sieve {
	s := sieve{show: api.MaxShow}
	if r.Intn(3) == 0 {
		s.show = r.Intn(api.MaxShow + 1)
	}
	for range r.Intn(4) {
		s.rules = append(s.rules, api.Rule{Name: []string{"a", "b", "c", "d"}[r.Intn(4)], Verdict: api.Accept + r.Intn(3)})
	}
	return s
}

func drawnIterators(r *rand.Rand, nodes int) []*walked {
	l := make([]*walked, 6)
	for i := range l {
		root := 1 + r.Intn(nodes)
		l[i] = &walked{drawnSieve(r), root, root, true}
	}
	return l
}

// P8 and P10: iterators that step now and then among drawn changes, against
// the model's looks at the whole tree.
func TestDrawnIteratorsAgainstModel(t *testing.T) {
	const words = "/ a # b ! a a b c a"
	r := rand.New(rand.NewSource(5))
	n := len(strings.Fields(words))
	found, moved := 0, 0
	for range 500 {
		g, m := plant(t, words), newModel(words)
		m.iterators = drawnIterators(r, n)
		for i, w := range m.iterators {
			wantIter(t, g, w.root, w.show, w.rules, i+1, api.OK)
		}
		for range 100 {
			places := make([]int, len(m.iterators))
			for i, w := range m.iterators {
				places[i] = w.place
			}
			wantDrawnChange(t, r, g, m, n)
			for i, w := range m.iterators {
				wantAt(t, g, i+1, w.place, w.ahead)
				if w.place != places[i] {
					moved++
				}
				if !m.within(w.place, w.root) {
					t.Errorf("the iterator %d is at %d, not within %d", i+1, w.place, w.root)
				}
			}
			for range 3 {
				i, back := r.Intn(len(m.iterators)), r.Intn(3) == 0
				want := m.step(m.iterators[i], back)
				wantStep(t, g, i+1, back, want)
				if want != 0 {
					found++
					wantStep(t, g, i+1, !back, want)
					wantStep(t, g, i+1, back, want)
				}
			}
			if t.Failed() {
				return
			}
		}
	}
	if found < 5000 || moved < 5000 {
		t.Errorf("only %d steps found a node, and only %d iterators were moved by a removal", found, moved)
	}
}
