package live

import (
	"testing"

	"grove/api"
	"grove/tree"
)

func wantSteps(t *testing.T, f *tree.Forest, i *Iterator, back bool, want ...int) {
	t.Helper()
	for _, w := range want {
		if n := i.Step(f, back); n != w {
			t.Errorf("a step (back: %t) is %d, want %d of %v", back, n, w, want)
		}
	}
}

func TestIteratorSteps(t *testing.T) {
	f := planted(t)
	i := NewIterator(1, newFilter(t, api.MaxShow))
	wantSteps(t, f, &i, true, 0)
	wantSteps(t, f, &i, false, 1, 2, 5, 3, 4, 0)
	wantSteps(t, f, &i, true, 4, 3, 5, 2, 1, 0)
	i = NewIterator(2, newFilter(t, api.MaxShow, api.Rule{Name: "b", Verdict: api.Reject}))
	wantSteps(t, f, &i, false, 0)
	if n, ahead := i.At(); n != 2 || !ahead {
		t.Errorf("after a step in vain it is at %d, ahead: %t", n, ahead)
	}
}

func TestLeave(t *testing.T) {
	for _, c := range []struct {
		i     Iterator
		taken int
		place int
		ahead bool
	}{
		{Iterator{root: 1, place: 5}, 2, 1, false}, {Iterator{root: 1, place: 5, ahead: true}, 2, 3, true},
		{Iterator{root: 1, place: 3}, 3, 5, false}, {Iterator{root: 1, place: 3, ahead: true}, 3, 4, true},
		{Iterator{root: 1, place: 4}, 4, 3, false}, {Iterator{root: 1, place: 4, ahead: true}, 4, 3, false},
		// 3 stands behind 5, but not within 2
		{Iterator{root: 2, place: 5, ahead: true}, 5, 2, false},
		{Iterator{root: 2, place: 5, ahead: true}, 2, 5, true}, {Iterator{root: 5, place: 5}, 2, 5, false},
		{Iterator{root: 1, place: 2}, 5, 2, false}, {Iterator{root: 1, place: 1, ahead: true}, 2, 1, true},
	} {
		i := c.i
		i.Leave(planted(t), c.taken)
		if n, ahead := i.At(); n != c.place || ahead != c.ahead {
			t.Errorf("%v leaves %d for %d, ahead: %t, want %d, %t", c.i, c.taken, n, ahead, c.place, c.ahead)
		}
	}
}
