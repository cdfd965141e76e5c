package tree

import (
	"math"
	"slices"
	"testing"
)

func elements(n int) Forest {
	f := NewForest()
	for range n {
		f.Add(newElement("a"))
	}
	return f
}

func TestHasAndCount(t *testing.T) {
	f := elements(2)
	for n, want := range map[int]bool{math.MinInt: false, -1: false, 0: false, 1: true, 2: true, 3: false, math.MaxInt: false} {
		if f.Has(n) != want {
			t.Errorf("Has(%d) = %t", n, !want)
		}
	}
	if n := f.Add(Note{Says: "x"}); n != 3 || f.Count() != 3 || f.Kind(3) != (Note{Says: "x"}) {
		t.Errorf("the third node is %d of %d, %v", n, f.Count(), f.Kind(3))
	}
}

// wantChain holds the chain against the list both ways.
func wantChain(t *testing.T, f *Forest, parent int, want ...int) {
	t.Helper()
	if kids := f.Kids(parent); !slices.Equal(kids, want) {
		t.Errorf("Kids(%d) = %v, want %v", parent, kids, want)
	}
	var back []int
	for k := f.Last(parent); k != 0; k = f.Ahead(k) {
		back = append(back, k)
	}
	slices.Reverse(back)
	if !slices.Equal(back, want) {
		t.Errorf("the kids of %d, from the last on back, are %v, want %v", parent, back, want)
	}
}

func TestChainOfKids(t *testing.T) {
	f := elements(5)
	f.Insert(1, 3, 0)
	wantChain(t, &f, 1, 3)
	f.Insert(1, 2, 3)
	wantChain(t, &f, 1, 2, 3)
	f.Insert(1, 5, 0)
	wantChain(t, &f, 1, 2, 3, 5)
	f.Insert(1, 4, 5)
	wantChain(t, &f, 1, 2, 3, 4, 5)
	for _, step := range []struct {
		taken int
		left  []int
	}{{3, []int{2, 4, 5}}, {2, []int{4, 5}}, {5, []int{4}}, {4, nil}} {
		f.Remove(step.taken)
		wantChain(t, &f, 1, step.left...)
		if f.nodes[step.taken].place != (place{}) {
			t.Errorf("the taken node %d stands at %v", step.taken, f.nodes[step.taken].place)
		}
	}
}

func TestRemoveLeavesWhatIsUnder(t *testing.T) {
	f := elements(4)
	f.Insert(1, 2, 0)
	f.Insert(2, 3, 0)
	f.Insert(2, 4, 0)
	f.Remove(2)
	wantChain(t, &f, 1)
	wantChain(t, &f, 2, 3, 4)
}

func TestWithin(t *testing.T) {
	f := elements(4)
	f.Insert(1, 2, 0)
	f.Insert(2, 3, 0)
	f.Insert(1, 4, 0)
	for _, c := range []struct {
		n, top int
		want   bool
	}{{1, 1, true}, {2, 1, true}, {3, 1, true}, {3, 2, true}, {1, 2, false}, {4, 2, false}, {2, 4, false}, {1, 3, false}} {
		if f.Within(c.n, c.top) != c.want {
			t.Errorf("Within(%d, %d) = %t", c.n, c.top, !c.want)
		}
	}
}

// wantUnder holds the order of the tree under top against the list.
func wantUnder(t *testing.T, f *Forest, top int, want ...int) {
	t.Helper()
	if got := slices.Collect(f.Under(top)); !slices.Equal(got, want) {
		t.Errorf("Under(%d) goes through %v, want %v", top, got, want)
	}
}

// grown is 1 over 2 and 6, 2 over 5 and 3, 5 over 4; 7 stands nowhere.
func grown() Forest {
	f := elements(7)
	for _, pair := range [][2]int{{1, 2}, {1, 6}, {2, 5}, {2, 3}, {5, 4}} {
		f.Insert(pair[0], pair[1], 0)
	}
	return f
}

func TestUnderIsInTheOrderOfTheTree(t *testing.T) {
	f := grown()
	wantUnder(t, &f, 1, 2, 5, 4, 3, 6)
	wantUnder(t, &f, 2, 5, 4, 3)
	wantUnder(t, &f, 5, 4)
	wantUnder(t, &f, 3)
	wantUnder(t, &f, 7)
	for n := range f.Under(1) {
		if n == 4 {
			break
		}
		if n == 3 {
			t.Error("went on past the break")
		}
	}
}

func TestNextStaysWithinTheTop(t *testing.T) {
	f := grown()
	for _, c := range []struct{ n, top, want int }{
		{1, 1, 2}, {2, 1, 5}, {5, 1, 4}, {4, 1, 3}, {3, 1, 6}, {6, 1, 0},
		{4, 5, 0}, {4, 4, 0}, {3, 2, 0}, {2, 2, 5}, {7, 7, 0},
		// from outside of the top
		{3, 5, 6}, {1, 2, 2}, {6, 2, 0}, {6, 7, 0}, {7, 1, 0},
	} {
		if n := f.Next(c.n, c.top); n != c.want {
			t.Errorf("Next(%d, %d) = %d, want %d", c.n, c.top, n, c.want)
		}
	}
}

func TestPastIsBehindAllThatIsWithin(t *testing.T) {
	f := grown()
	for _, c := range []struct{ n, top, want int }{
		{1, 1, 0}, {2, 1, 6}, {5, 1, 3}, {4, 1, 3}, {3, 1, 6}, {6, 1, 0},
		{5, 2, 3}, {3, 2, 0}, {2, 2, 0}, {5, 5, 0}, {4, 5, 0}, {7, 7, 0},
		// from outside of the top
		{3, 5, 6}, {1, 2, 0}, {6, 2, 0}, {6, 7, 0}, {7, 1, 0},
	} {
		if n := f.Past(c.n, c.top); n != c.want {
			t.Errorf("Past(%d, %d) = %d, want %d", c.n, c.top, n, c.want)
		}
	}
}

func TestPreviousStaysWithinTheTop(t *testing.T) {
	f := grown()
	for _, c := range []struct{ n, top, want int }{
		{1, 1, 0}, {2, 1, 1}, {5, 1, 2}, {4, 1, 5}, {3, 1, 4}, {6, 1, 3},
		{2, 2, 0}, {5, 2, 2}, {4, 5, 5}, {6, 6, 0}, {3, 3, 0}, {7, 7, 0},
	} {
		if n := f.Previous(c.n, c.top); n != c.want {
			t.Errorf("Previous(%d, %d) = %d, want %d", c.n, c.top, n, c.want)
		}
	}
}

func TestElementTellsElementsOnly(t *testing.T) {
	f := NewForest()
	for _, k := range []Kind{Root{}, newElement("a"), Text{}, Note{}} {
		f.Add(k)
	}
	for n := 1; n <= 4; n++ {
		if e := f.Element(n); (e != nil) != (n == 2) {
			t.Errorf("Element(%d) = %v", n, e)
		}
	}
}

// A stamp that stays the same though the forest changed would leave a list
// with what it had; one that changes for nothing would have it look in vain.
func TestStampChangesWithPlacesAndClasses(t *testing.T) {
	f := grown()
	for _, c := range []struct {
		what            string
		do              func()
		places, classes bool
	}{
		{"Insert", func() { f.Insert(1, 7, 0) }, true, false},
		{"Remove", func() { f.Remove(2) }, true, false},
		{"Set of the class", func() { f.Set(6, "class", "x") }, false, true},
		{"Unset of the class", func() { f.Unset(6, "class") }, false, true},
		{"Set of another one", func() { f.Set(6, "id", "x") }, false, false},
		{"Unset of another one", func() { f.Unset(6, "id") }, false, false},
		{"Add", func() { f.Add(newElement("a")) }, false, false},
		{"looks", func() { f.Kids(1); f.ById(1, "x"); f.Within(1, 2) }, false, false},
	} {
		was := f.Stamp()
		c.do()
		now := f.Stamp()
		if (was.Places != now.Places) != c.places || (was.Classes != now.Classes) != c.classes {
			t.Errorf("%s: the stamp went from %v to %v", c.what, was, now)
		}
	}
}

func TestById(t *testing.T) {
	f := grown()
	for _, n := range []int{1, 6, 3, 4} {
		f.Set(n, "id", "x")
	}
	f.Set(2, "name", "x")
	f.Set(5, "id", "")
	for top, want := range []int{0, 4, 4, 0, 0, 4, 0, 0} {
		if top > 0 && f.ById(top, "x") != want {
			t.Errorf("ById(%d, x) = %d, want %d", top, f.ById(top, "x"), want)
		}
	}
	if n := f.ById(1, ""); n != 0 {
		t.Errorf("ById(1, nothing) = %d", n)
	}
	f.Unset(4, "id")
	if n := f.ById(1, "x"); n != 3 {
		t.Errorf("ById(1, x) = %d, want 3", n)
	}
}
