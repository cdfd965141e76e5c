package grove_test

import (
	"math"
	"testing"

	"grove/api"
)

// P4 and P5: the document's first example.
func TestFirstExample(t *testing.T) {
	g := plant(t, "a b # b")
	wantPut(t, g, 1, 2, 0, api.OK)
	wantPut(t, g, 1, 3, 0, api.OK)
	wantPut(t, g, 2, 4, 0, api.OK)
	wantPut(t, g, 1, 3, 2, api.OK)
	wantKids(t, g, 1, 3, 2)
	wantPut(t, g, 4, 1, 0, api.ErrPlace)
	wantPut(t, g, 1, 4, 3, api.OK)
	wantKids(t, g, 1, 4, 3, 2)
	wantKids(t, g, 2)
}

// P4
func TestPutAheadOfEachKidAndBehindAll(t *testing.T) {
	for _, c := range []struct {
		child, before int
		want          []int
	}{
		{5, 2, []int{5, 2, 3, 4}},
		{5, 3, []int{2, 5, 3, 4}},
		{5, 4, []int{2, 3, 5, 4}},
		{5, 0, []int{2, 3, 4, 5}},
		{2, 3, []int{2, 3, 4}},
		{2, 4, []int{3, 2, 4}},
		{2, 0, []int{3, 4, 2}},
		{3, 2, []int{3, 2, 4}},
		{3, 4, []int{2, 3, 4}},
		{3, 0, []int{2, 4, 3}},
		{4, 2, []int{4, 2, 3}},
		{4, 3, []int{2, 4, 3}},
		{4, 0, []int{2, 3, 4}},
	} {
		g := plant(t, "a b # ! b")
		under(t, g, 1, 2, 3, 4)
		wantPut(t, g, 1, c.child, c.before, api.OK)
		wantKids(t, g, 1, c.want...)
	}
}

// P4
func TestPutAheadOfItself(t *testing.T) {
	g := plant(t, "a b c d e")
	under(t, g, 1, 2, 3, 4)
	for child := 2; child <= 4; child++ {
		wantPut(t, g, 1, child, child, api.OK)
		wantKids(t, g, 1, 2, 3, 4)
	}
	wantTake(t, g, 2, api.OK)
	wantTake(t, g, 3, api.OK)
	wantPut(t, g, 1, 4, 4, api.OK)
	wantKids(t, g, 1, 4)
	// Itself, but not directly under this parent.
	wantPut(t, g, 1, 5, 5, api.ErrBefore)
	wantPut(t, g, 4, 5, 0, api.OK)
	wantPut(t, g, 1, 5, 5, api.ErrBefore)
}

// P4
func TestPutBringsAllUnderItAlong(t *testing.T) {
	g := plant(t, "/ a b c # ! / a")
	under(t, g, 1, 2)
	under(t, g, 2, 3, 6)
	under(t, g, 3, 4, 5)
	under(t, g, 7, 8)
	wantPut(t, g, 8, 3, 0, api.OK)
	wantKids(t, g, 2, 6)
	wantKids(t, g, 8, 3)
	wantKids(t, g, 3, 4, 5)
	// Up by two, and into what was beside it.
	wantPut(t, g, 8, 4, 3, api.OK)
	wantKids(t, g, 8, 4, 3)
	wantKids(t, g, 3, 5)
	wantPut(t, g, 4, 3, 0, api.OK)
	wantKids(t, g, 8, 4)
	wantKids(t, g, 4, 3)
	wantKids(t, g, 3, 5)
}

// P4
func TestPutWithoutSuchNodes(t *testing.T) {
	g := plant(t, "a b")
	under(t, g, 1, 2)
	for _, n := range []int{-1, 3, 301, math.MinInt, math.MaxInt} {
		wantPut(t, g, n, 2, 0, api.ErrNode)
		wantPut(t, g, 1, n, 0, api.ErrNode)
		wantPut(t, g, 1, 2, n, api.ErrNode)
	}
	wantPut(t, g, 0, 2, 0, api.ErrNode)
	wantPut(t, g, 1, 0, 0, api.ErrNode)
	wantPut(t, g, 0, 0, 0, api.ErrNode)
	wantKids(t, g, 1, 2)
}

// P4
func TestPutWhereNoneMayStand(t *testing.T) {
	g := plant(t, "a # ! / b c")
	under(t, g, 1, 5)
	under(t, g, 5, 6)
	for _, c := range [][2]int{
		{2, 6}, {3, 6}, {2, 3}, {3, 2}, // under a text or a note
		{1, 4}, {6, 4}, // a root
		{1, 1}, {2, 2}, {3, 3}, {4, 4}, {5, 1}, {6, 1}, {6, 5}, // under itself
	} {
		wantPut(t, g, c[0], c[1], 0, api.ErrPlace)
	}
	wantKids(t, g, 1, 5)
	wantKids(t, g, 5, 6)
	wantKids(t, g, 6)
}

// P4
func TestPutAheadOfWhatStandsElsewhere(t *testing.T) {
	g := plant(t, "a b c d e")
	under(t, g, 1, 2, 3)
	under(t, g, 2, 4)
	wantPut(t, g, 1, 5, 4, api.ErrBefore) // deeper under it
	wantPut(t, g, 2, 5, 3, api.ErrBefore) // beside it
	wantPut(t, g, 2, 5, 1, api.ErrBefore) // above it
	wantPut(t, g, 2, 5, 2, api.ErrBefore) // the parent itself
	wantPut(t, g, 1, 4, 5, api.ErrBefore) // nowhere
	wantKids(t, g, 1, 2, 3)
	wantKids(t, g, 2, 4)
	wantParent(t, g, 5, 0)
}

// P4
func TestRootTakesNoTextAndOneElement(t *testing.T) {
	g := plant(t, "/ a b # ! !")
	wantPut(t, g, 1, 4, 0, api.ErrPlace)
	wantPut(t, g, 1, 5, 0, api.OK)
	wantPut(t, g, 1, 2, 0, api.OK)
	wantPut(t, g, 1, 6, 2, api.OK)
	wantKids(t, g, 1, 5, 6, 2)
	wantPut(t, g, 1, 3, 0, api.ErrPlace)
	wantPut(t, g, 1, 3, 5, api.ErrPlace)
	wantPut(t, g, 1, 4, 6, api.ErrPlace)
	// The one element itself may go about.
	wantPut(t, g, 1, 2, 5, api.OK)
	wantKids(t, g, 1, 2, 5, 6)
	wantPut(t, g, 1, 2, 2, api.OK)
	wantPut(t, g, 1, 2, 6, api.OK)
	wantKids(t, g, 1, 5, 2, 6)
	// Elements and texts deeper down count for nothing here.
	wantPut(t, g, 2, 3, 0, api.OK)
	wantPut(t, g, 2, 4, 0, api.OK)
	wantPut(t, g, 1, 3, 0, api.ErrPlace)
	wantTake(t, g, 2, api.OK)
	wantPut(t, g, 1, 3, 0, api.OK)
	wantKids(t, g, 1, 5, 6, 3)
	wantPut(t, g, 1, 2, 0, api.ErrPlace)
}

// P4: what an element takes is not bounded as a root's kids are.
func TestElementTakesAnyButRoots(t *testing.T) {
	g := plant(t, "a b c # # ! /")
	under(t, g, 1, 2, 3, 4, 5, 6)
	wantKids(t, g, 1, 2, 3, 4, 5, 6)
	wantPut(t, g, 1, 7, 0, api.ErrPlace)
}

// P1 and P4
func TestPutErrorsInTheirOrder(t *testing.T) {
	g := plant(t, "/ a b # !")
	under(t, g, 1, 2)
	wantPut(t, g, 4, 1, 9, api.ErrNode)   // under a text, a root
	wantPut(t, g, 2, 2, -1, api.ErrNode)  // under itself
	wantPut(t, g, 9, 1, 3, api.ErrNode)   // a root, ahead of a loose node
	wantPut(t, g, 4, 3, 2, api.ErrPlace)  // ahead of what stands elsewhere
	wantPut(t, g, 2, 1, 3, api.ErrPlace)  // likewise
	wantPut(t, g, 2, 2, 3, api.ErrPlace)  // likewise
	wantPut(t, g, 1, 4, 5, api.ErrBefore) // a text under a root
	wantPut(t, g, 1, 3, 5, api.ErrBefore) // a second element there
	wantPut(t, g, 1, 3, 3, api.ErrBefore) // likewise, ahead of itself
	wantKids(t, g, 1, 2)
}

// P4
func TestTake(t *testing.T) {
	g := plant(t, "a b c # ! d")
	under(t, g, 1, 2, 3, 4)
	under(t, g, 3, 5, 6)
	wantTake(t, g, 3, api.OK)
	wantKids(t, g, 1, 2, 4)
	wantKids(t, g, 3, 5, 6)
	wantParent(t, g, 3, 0)
	wantTake(t, g, 2, api.OK)
	wantKids(t, g, 1, 4)
	wantTake(t, g, 4, api.OK)
	wantKids(t, g, 1)
	under(t, g, 1, 4, 3)
	wantTake(t, g, 3, api.OK)
	wantKids(t, g, 1, 4)
	under(t, g, 1, 2)
	wantKids(t, g, 1, 4, 2)
	wantKids(t, g, 3, 5, 6)
}

// P4
func TestTakeErrors(t *testing.T) {
	g := plant(t, "/ a b")
	under(t, g, 1, 2)
	for _, n := range []int{0, -1, 4, 301, math.MinInt, math.MaxInt} {
		wantTake(t, g, n, api.ErrNode)
	}
	wantTake(t, g, 1, api.ErrLoose)
	wantTake(t, g, 3, api.ErrLoose)
	wantTake(t, g, 2, api.OK)
	wantTake(t, g, 2, api.ErrLoose)
}
