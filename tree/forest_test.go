package tree

import (
	"math"
	"slices"
	"testing"
)

func elements(n int) Forest {
	f := NewForest()
	for range n {
		f.Add(Element{Tag: "a"})
	}
	return f
}

func TestHasAndCount(t *testing.T) {
	f := elements(2)
	for n, want := range map[int]bool{math.MinInt: false, -1: false, 0: false, 1: true, 2: true, 3: false, math.MaxInt: false} {
		if f.Has(n) != want {
			t.Errorf("Has(%d) = %t", n, !want)
		}
	}
	if n := f.Add(Note{Says: "x"}); n != 3 || f.Count() != 3 || f.Kind(3) != (Note{Says: "x"}) {
		t.Errorf("the third node is %d of %d, %v", n, f.Count(), f.Kind(3))
	}
}

// wantChain holds the chain against the list both ways.
func wantChain(t *testing.T, f *Forest, parent int, want ...int) {
	t.Helper()
	if kids := f.Kids(parent); !slices.Equal(kids, want) {
		t.Errorf("Kids(%d) = %v, want %v", parent, kids, want)
	}
	var back []int
	for k := f.nodes[parent].last; k != 0; k = f.nodes[k].ahead {
		back = append(back, k)
	}
	slices.Reverse(back)
	if !slices.Equal(back, want) {
		t.Errorf("the kids of %d, from the last on back, are %v, want %v", parent, back, want)
	}
}

func TestChainOfKids(t *testing.T) {
	f := elements(5)
	f.Insert(1, 3, 0)
	wantChain(t, &f, 1, 3)
	f.Insert(1, 2, 3)
	wantChain(t, &f, 1, 2, 3)
	f.Insert(1, 5, 0)
	wantChain(t, &f, 1, 2, 3, 5)
	f.Insert(1, 4, 5)
	wantChain(t, &f, 1, 2, 3, 4, 5)
	for _, step := range []struct {
		taken int
		left  []int
	}{{3, []int{2, 4, 5}}, {2, []int{4, 5}}, {5, []int{4}}, {4, nil}} {
		f.Remove(step.taken)
		wantChain(t, &f, 1, step.left...)
		if f.nodes[step.taken].place != (place{}) {
			t.Errorf("the taken node %d stands at %v", step.taken, f.nodes[step.taken].place)
		}
	}
}

func TestRemoveLeavesWhatIsUnder(t *testing.T) {
	f := elements(4)
	f.Insert(1, 2, 0)
	f.Insert(2, 3, 0)
	f.Insert(2, 4, 0)
	f.Remove(2)
	wantChain(t, &f, 1)
	wantChain(t, &f, 2, 3, 4)
}

func TestWithin(t *testing.T) {
	f := elements(4)
	f.Insert(1, 2, 0)
	f.Insert(2, 3, 0)
	f.Insert(1, 4, 0)
	for _, c := range []struct {
		n, top int
		want   bool
	}{{1, 1, true}, {2, 1, true}, {3, 1, true}, {3, 2, true}, {1, 2, false}, {4, 2, false}, {2, 4, false}, {1, 3, false}} {
		if f.Within(c.n, c.top) != c.want {
			t.Errorf("Within(%d, %d) = %t", c.n, c.top, !c.want)
		}
	}
}
