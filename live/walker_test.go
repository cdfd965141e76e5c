package live

import (
	"math"
	"testing"

	"grove/api"
	"grove/tree"
)

// wantMoves makes each move from one node: ToParent, ToFirst, ToLast,
// ToPrevious, ToNext, Back, On.
func wantMoves(t *testing.T, f *tree.Forest, w Walker, from int, want ...int) {
	t.Helper()
	for i, found := range want {
		w.Go(from)
		if n, err := w.Move(f, api.ToParent+i); n != found || err != api.OK {
			t.Errorf("from %d the move %d is %d, %d, want %d, OK", from, api.ToParent+i, n, err, found)
		}
		if found == 0 {
			found = from
		}
		if w.Here() != found {
			t.Errorf("from %d the move %d went to %d, want %d", from, api.ToParent+i, w.Here(), found)
		}
	}
}

func TestWalkerMoves(t *testing.T) {
	f := planted(t)
	w := NewWalker(1, newFilter(t, api.MaxShow))
	if w.Here() != 1 {
		t.Errorf("a new walker is at %d", w.Here())
	}
	wantMoves(t, f, w, 1, 0, 2, 4, 0, 0, 0, 2)
	wantMoves(t, f, w, 2, 1, 5, 5, 0, 3, 1, 5)
	wantMoves(t, f, w, 3, 1, 0, 0, 2, 4, 5, 4)
	wantMoves(t, f, w, 4, 1, 0, 0, 3, 0, 3, 0)
	wantMoves(t, f, w, 5, 2, 0, 0, 0, 0, 2, 3)
	skipping := NewWalker(1, newFilter(t, api.MaxShow, api.Rule{Name: "b", Verdict: api.Skip}))
	wantMoves(t, f, skipping, 1, 0, 3, 3, 0, 0, 0, 3)
	wantMoves(t, f, skipping, 5, 1, 0, 0, 0, 3, 1, 3)
	rejecting := NewWalker(1, newFilter(t, api.MaxShow, api.Rule{Name: "b", Verdict: api.Reject}))
	wantMoves(t, f, rejecting, 1, 0, 3, 3, 0, 0, 0, 3)
	wantMoves(t, f, rejecting, 3, 1, 0, 0, 0, 0, 1, 0)
}

func TestWalkerOutsideOfItsRoot(t *testing.T) {
	f := planted(t)
	w := NewWalker(2, newFilter(t, api.MaxShow))
	wantMoves(t, f, w, 2, 0, 5, 5, 0, 0, 0, 5)
	wantMoves(t, f, w, 5, 2, 0, 0, 0, 0, 2, 0)
	wantMoves(t, f, w, 1, 0, 2, 4, 0, 0, 0, 2)
	wantMoves(t, f, w, 4, 1, 0, 0, 3, 0, 3, 0)
	wantMoves(t, f, NewWalker(2, newFilter(t, 0)), 4, 0, 0, 0, 0, 0, 0, 0)
}

func TestFinderHasTheSevenMovesOnly(t *testing.T) {
	for how := api.ToParent; how <= api.On; how++ {
		if finder(how) == nil {
			t.Errorf("there is no move %d", how)
		}
	}
	for _, how := range []int{math.MinInt, -1, 0, 8, math.MaxInt} {
		if finder(how) != nil {
			t.Errorf("there is a move %d", how)
		}
	}
}
