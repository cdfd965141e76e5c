package grove_test

import (
	"testing"

	"grove/api"
)

// P8: an iterator behind its place falls back to what is ahead of the taken
// one; one that is ahead of its place goes on to what is behind all of it.
func TestTakeMovesIterators(t *testing.T) {
	for _, c := range []struct {
		root, on int // steps on
		back     int // steps back then
		take     int
		place    int
		ahead    bool
	}{
		// behind: its parent, for want of a kid ahead
		{1, 2, 0, 2, 1, false}, {1, 3, 0, 3, 2, false}, {1, 5, 0, 3, 2, false}, {1, 4, 0, 4, 3, false}, {1, 9, 0, 9, 8, false}, {1, 9, 0, 2, 1, false},
		// behind: the last node within the kid ahead
		{1, 6, 0, 6, 5, false}, {1, 7, 0, 7, 6, false}, {1, 9, 0, 7, 6, false}, {1, 5, 0, 5, 4, false},
		// ahead: what is behind all that is within the taken one
		{1, 3, 1, 3, 6, true}, {1, 4, 1, 3, 6, true}, {1, 5, 1, 3, 6, true}, {1, 4, 1, 4, 5, true}, {1, 5, 1, 5, 6, true}, {1, 6, 1, 6, 7, true},
		// ahead, with nothing behind: it is behind from now on
		{1, 7, 1, 7, 6, false}, {1, 9, 1, 7, 6, false}, {1, 9, 1, 9, 8, false}, {1, 4, 1, 2, 1, false},
		// ahead, with nothing behind that is within its root
		{3, 3, 1, 5, 4, false}, {3, 3, 2, 4, 5, true}, {7, 2, 1, 8, 7, false},
		// its place is not within the taken one
		{1, 3, 0, 6, 3, false}, {1, 3, 1, 6, 3, true}, {1, 6, 0, 3, 6, false}, {1, 6, 1, 3, 6, true}, {1, 3, 0, 4, 3, false}, {1, 3, 1, 4, 3, true}, {6, 0, 0, 3, 6, true},
		// its root is within the taken one, or is it
		{3, 2, 0, 2, 4, false}, {3, 2, 1, 3, 4, true}, {3, 1, 0, 3, 3, false}, {3, 0, 0, 3, 3, true}, {9, 1, 0, 7, 9, false}, {9, 0, 0, 8, 9, true},
	} {
		g := orchard(t)
		wantIter(t, g, c.root, allKinds, nil, 1, api.OK)
		for range c.on {
			g.Step(1, false)
		}
		for range c.back {
			g.Step(1, true)
		}
		wantTake(t, g, c.take, api.OK)
		wantAt(t, g, 1, c.place, c.ahead)
		if t.Failed() {
			t.Fatalf("in the case %v", c)
		}
	}
}

// P8: the filter has no say in where an iterator comes to by a removal.
func TestTakeMovesIteratorsToWhatIsNotShown(t *testing.T) {
	g := orchard(t)
	wantIter(t, g, 1, 1<<api.Element, []api.Rule{{Name: "a", Verdict: api.Reject}}, 1, api.OK)
	wantIter(t, g, 1, 1<<api.Element, nil, 2, api.OK)
	wantOn(t, g, 1, 3, 5)
	wantOn(t, g, 2, 2, 3, 5)
	wantBack(t, g, 2, 5)
	wantTake(t, g, 5, api.OK)
	wantAt(t, g, 1, 4, false)
	wantAt(t, g, 2, 6, true)
	wantTake(t, g, 3, api.OK)
	wantAt(t, g, 1, 2, false)
	wantAt(t, g, 2, 6, true)
	wantOn(t, g, 1, 7)
	wantBack(t, g, 2, 2)
}

// P8: each iterator is moved by its own place, side and root.
func TestTakeMovesEachIterator(t *testing.T) {
	g := orchard(t)
	for i, root := range []int{1, 1, 3, 7, 1} {
		wantIter(t, g, root, allKinds, nil, i+1, api.OK)
	}
	wantOn(t, g, 1, 1, 2, 3, 4)
	wantOn(t, g, 2, 1, 2, 3, 4)
	wantBack(t, g, 2, 4)
	wantOn(t, g, 3, 3, 4)
	wantOn(t, g, 4, 7, 8)
	wantTake(t, g, 3, api.OK)
	wantAt(t, g, 1, 2, false)
	wantAt(t, g, 2, 6, true)
	wantAt(t, g, 3, 4, false)
	wantAt(t, g, 4, 8, false)
	wantAt(t, g, 5, 1, true)
	wantOn(t, g, 3, 5, 0)
	wantOn(t, g, 2, 6)
	wantBack(t, g, 1, 2)
}

// P8: what is taken out and what was under it can still be gone through by an
// iterator whose root went along; others see it no more, until it is back.
func TestIteratorsGoOnInWhatWasTaken(t *testing.T) {
	g := orchard(t)
	wantIter(t, g, 7, allKinds, nil, 1, api.OK)
	wantIter(t, g, 1, allKinds, nil, 2, api.OK)
	wantOn(t, g, 1, 7, 8)
	wantOn(t, g, 2, 1, 2, 3, 4, 5, 6, 7, 8)
	wantTake(t, g, 7, api.OK)
	wantOn(t, g, 2, 0)
	wantOn(t, g, 1, 9, 0)
	wantPut(t, g, 3, 7, 4, api.OK)
	wantAt(t, g, 1, 9, false)
	wantOn(t, g, 2, 0)
	wantBack(t, g, 2, 6, 5, 4, 9, 8, 7, 3)
	wantBack(t, g, 1, 9, 8, 7, 0)
}

// P8: Put takes out too, be it to elsewhere or to where it was.
func TestPutMovesIterators(t *testing.T) {
	for _, c := range []struct {
		on, back              int
		parent, child, before int
		place                 int
		ahead                 bool
		next                  int // a step on is this one then
	}{
		{3, 0, 7, 3, 0, 2, false, 6}, {3, 1, 7, 3, 0, 6, true, 6}, {4, 0, 2, 3, 0, 2, false, 6}, {4, 1, 2, 3, 0, 6, true, 6},
		{7, 0, 3, 7, 4, 6, false, 0}, {8, 1, 3, 7, 4, 6, false, 0},
		// it stays where it is, but was taken
		{3, 0, 2, 3, 3, 2, false, 3}, {5, 0, 2, 3, 6, 2, false, 3}, {3, 1, 2, 3, 3, 6, true, 6}, {9, 1, 8, 9, 9, 8, false, 9}, {9, 1, 8, 9, 0, 8, false, 9},
		// it was not within what is put
		{3, 0, 3, 6, 4, 3, false, 6}, {6, 1, 7, 3, 8, 6, true, 6},
	} {
		g := orchard(t)
		wantIter(t, g, 1, allKinds, nil, 1, api.OK)
		for range c.on {
			g.Step(1, false)
		}
		for range c.back {
			g.Step(1, true)
		}
		wantPut(t, g, c.parent, c.child, c.before, api.OK)
		wantAt(t, g, 1, c.place, c.ahead)
		wantOn(t, g, 1, c.next)
		if t.Failed() {
			t.Fatalf("in the case %v", c)
		}
	}
}

// P1 and P8: a Put or Take that is refused, and a Put of what stood nowhere,
// take nothing out.
func TestNothingTakenMovesNoIterator(t *testing.T) {
	g := orchard(t)
	wantMake(t, g, api.Element, "e", 10, api.OK)
	wantIter(t, g, 1, allKinds, nil, 1, api.OK)
	wantIter(t, g, 10, allKinds, nil, 2, api.OK)
	wantOn(t, g, 1, 1, 2, 3)
	wantOn(t, g, 2, 10)
	wantPut(t, g, 4, 3, 0, api.ErrPlace)
	wantPut(t, g, 5, 3, 0, api.ErrPlace)
	wantPut(t, g, 7, 3, 6, api.ErrBefore)
	wantPut(t, g, 1, 3, 0, api.ErrPlace)
	wantPut(t, g, 2, 3, 11, api.ErrNode)
	wantTake(t, g, 1, api.ErrLoose)
	wantTake(t, g, 10, api.ErrLoose)
	wantAt(t, g, 1, 3, false)
	wantPut(t, g, 3, 10, 4, api.OK)
	wantAt(t, g, 1, 3, false)
	wantAt(t, g, 2, 10, false)
	wantOn(t, g, 1, 10, 4)
}
