package grove_test

import (
	"math"
	"testing"

	"grove/api"
)

// P5
func TestKidsAreThoseDirectlyUnderInTheirOrder(t *testing.T) {
	g := plant(t, "a b c # ! b")
	under(t, g, 1, 6, 2, 5)
	under(t, g, 2, 4, 3)
	wantKids(t, g, 1, 6, 2, 5)
	wantKids(t, g, 2, 4, 3)
	for _, n := range []int{3, 4, 5, 6} {
		wantKids(t, g, n)
	}
}

// P5
func TestParentIsTheOneDirectlyAbove(t *testing.T) {
	g := plant(t, "/ a b #")
	under(t, g, 1, 2)
	under(t, g, 2, 3)
	under(t, g, 3, 4)
	for n := 1; n <= 4; n++ {
		wantParent(t, g, n, n-1)
	}
	wantTake(t, g, 3, api.OK)
	wantParent(t, g, 3, 0)
	wantParent(t, g, 4, 3)
}

// P1 and P5
func TestLooksAtNodesThatThereAreNot(t *testing.T) {
	g := plant(t, "a b")
	under(t, g, 1, 2)
	for _, n := range []int{0, -1, 3, 300, 301, math.MinInt, math.MaxInt} {
		if kids, err := g.Kids(n); len(kids) != 0 || err != api.ErrNode {
			t.Errorf("Kids(%d) = %v, %d, want none, ErrNode", n, kids, err)
		}
		if p, err := g.Parent(n); p != 0 || err != api.ErrNode {
			t.Errorf("Parent(%d) = %d, %d, want 0, ErrNode", n, p, err)
		}
	}
}
