package grove_test

import (
	"math"
	"slices"
	"strings"
	"testing"

	"grove/api"
	"grove/grove"
)

const allKinds = api.MaxShow

func wantIter(t *testing.T, g *grove.Grove, root, show int, rules []api.Rule, want int, wantErr api.Errno) {
	t.Helper()
	if n, err := g.Iter(root, show, rules); n != want || err != wantErr {
		t.Errorf("Iter(%d, %d, %v) = %d, %d, want %d, %d", root, show, rules, n, err, want, wantErr)
	}
}

func wantStep(t *testing.T, g *grove.Grove, iter int, back bool, want int) {
	t.Helper()
	if n, err := g.Step(iter, back); n != want || err != api.OK {
		t.Errorf("Step(%d, %t) = %d, %d, want %d, OK", iter, back, n, err, want)
	}
}

func wantOn(t *testing.T, g *grove.Grove, iter int, want ...int) {
	t.Helper()
	for _, n := range want {
		wantStep(t, g, iter, false, n)
	}
}

func wantBack(t *testing.T, g *grove.Grove, iter int, want ...int) {
	t.Helper()
	for _, n := range want {
		wantStep(t, g, iter, true, n)
	}
}

func wantAt(t *testing.T, g *grove.Grove, iter, want int, wantAhead bool) {
	t.Helper()
	if n, ahead, err := g.At(iter); n != want || ahead != wantAhead || err != api.OK {
		t.Errorf("At(%d) = %d, %t, %d, want %d, %t, OK", iter, n, ahead, err, want, wantAhead)
	}
}

// orchard is / (a (b (# c) ! b (d (#)))), numbers in the order of the tree.
func orchard(t *testing.T) *grove.Grove {
	t.Helper()
	g := plant(t, "/ a b # c ! b d #")
	under(t, g, 1, 2)
	under(t, g, 2, 3, 6, 7)
	under(t, g, 3, 4, 5)
	under(t, g, 7, 8)
	under(t, g, 8, 9)
	return g
}

// P8: the document's third example.
func TestThirdExample(t *testing.T) {
	g := plant(t, "a b # b")
	under(t, g, 1, 3, 4)
	wantIter(t, g, 1, 30, nil, 1, api.OK)
	wantOn(t, g, 1, 1, 3)
	wantAt(t, g, 1, 3, false)
	wantTake(t, g, 3, api.OK)
	wantAt(t, g, 1, 1, false)
	wantOn(t, g, 1, 4, 0)
	wantBack(t, g, 1, 4, 1, 0)
}

// P8
func TestStepsGoThroughTheTreeInItsOrder(t *testing.T) {
	g := orchard(t)
	wantIter(t, g, 1, allKinds, nil, 1, api.OK)
	wantAt(t, g, 1, 1, true)
	wantOn(t, g, 1, 1, 2, 3, 4, 5, 6, 7, 8, 9, 0, 0)
	wantAt(t, g, 1, 9, false)
	wantBack(t, g, 1, 9, 8, 7, 6, 5, 4, 3, 2, 1, 0, 0)
	wantAt(t, g, 1, 1, true)
}

// P8 and P10: between two nodes the way back begins with the one just passed.
func TestOnAndBackAnswerTheSameNode(t *testing.T) {
	g := orchard(t)
	wantIter(t, g, 1, allKinds, nil, 1, api.OK)
	for n := 1; n <= 9; n++ {
		wantOn(t, g, 1, n)
		wantAt(t, g, 1, n, false)
		wantBack(t, g, 1, n)
		wantAt(t, g, 1, n, true)
		wantOn(t, g, 1, n)
	}
}

// P8: what is beside and above the root is not looked at.
func TestStepsStayWithinTheRoot(t *testing.T) {
	g := orchard(t)
	for i, c := range [][]int{{3, 4, 5}, {7, 8, 9}, {6}, {9}, {2, 3, 4, 5, 6, 7, 8, 9}} {
		wantIter(t, g, c[0], allKinds, nil, i+1, api.OK)
		wantAt(t, g, i+1, c[0], true)
		wantBack(t, g, i+1, 0)
		wantOn(t, g, i+1, c...)
		wantOn(t, g, i+1, 0)
		slices.Reverse(c)
		wantBack(t, g, i+1, c...)
		wantBack(t, g, i+1, 0)
	}
}

// P8: nodes are passed over by their kinds; the bit 1 is no kind's.
func TestStepsByKind(t *testing.T) {
	all := [][]int{{1}, {2, 3, 5, 7, 8}, {4, 9}, {6}}
	for show := 0; show <= api.MaxShow; show++ {
		var want []int
		for kind := api.Root; kind <= api.Note; kind++ {
			if show&(1<<kind) != 0 {
				want = append(want, all[kind-api.Root]...)
			}
		}
		slices.Sort(want)
		g := orchard(t)
		wantIter(t, g, 1, show, nil, 1, api.OK)
		wantOn(t, g, 1, append(want, 0)...)
		slices.Reverse(want)
		wantBack(t, g, 1, append(want, 0)...)
	}
}

// P8: of several rules of a tag the first counts; what is rejected is passed
// over, but not what is under it.
func TestStepsByRules(t *testing.T) {
	g := orchard(t)
	b, c, d := api.Rule{Name: "b", Verdict: api.Reject}, api.Rule{Name: "c", Verdict: api.Accept}, api.Rule{Name: "d", Verdict: api.Skip}
	wantIter(t, g, 1, allKinds, []api.Rule{b, c, d}, 1, api.OK)
	wantOn(t, g, 1, 1, 2, 4, 5, 6, 9, 0)
	wantBack(t, g, 1, 9, 6, 5, 4, 2, 1, 0)
	b.Verdict = api.Accept
	wantIter(t, g, 1, 1<<api.Element, []api.Rule{b, {Name: "b", Verdict: api.Skip}, d, {Name: "d", Verdict: api.Accept}}, 2, api.OK)
	wantOn(t, g, 2, 2, 3, 5, 7, 0)
	wantBack(t, g, 2, 7, 5, 3, 2, 0)
	// Rules don't bring in what is not shown, and are of elements alone.
	wantIter(t, g, 1, 1<<api.Note, []api.Rule{b, c}, 3, api.OK)
	wantOn(t, g, 3, 6, 0)
}

// P8: a step that finds nothing leaves the iterator where it is, on its side.
func TestStepsInVainChangeNothing(t *testing.T) {
	g := orchard(t)
	wantIter(t, g, 1, 0, nil, 1, api.OK)
	wantOn(t, g, 1, 0, 0)
	wantBack(t, g, 1, 0, 0)
	wantAt(t, g, 1, 1, true)
	wantIter(t, g, 1, 1<<api.Note, nil, 2, api.OK)
	wantOn(t, g, 2, 6, 0)
	wantAt(t, g, 2, 6, false)
	wantBack(t, g, 2, 6, 0)
	wantAt(t, g, 2, 6, true)
	wantOn(t, g, 2, 6)
}

// P8: iterators see the tree as it is when they step.
func TestStepsSeeWhatHasBeenPut(t *testing.T) {
	g := plant(t, "a b c d")
	under(t, g, 1, 2)
	wantIter(t, g, 1, allKinds, nil, 1, api.OK)
	wantOn(t, g, 1, 1, 2, 0)
	wantPut(t, g, 1, 3, 0, api.OK)
	wantPut(t, g, 1, 4, 2, api.OK)
	wantAt(t, g, 1, 2, false)
	wantOn(t, g, 1, 3, 0)
	wantBack(t, g, 1, 3, 2, 4, 1, 0)
}

// wantFilters holds an Iter, or Walker, of a grove with two nodes against what
// P8 says of its errors, and of those filters that may just be.
func wantFilters(t *testing.T, want func(root, show int, rules []api.Rule, n int, err api.Errno)) {
	t.Helper()
	ok := api.Rule{Name: "abcdefgh", Verdict: api.Skip}
	wrong := []api.Rule{ok, {}}
	many := slices.Repeat(wrong, 6)
	for _, n := range []int{0, -1, 3, 301, math.MinInt, math.MaxInt} {
		want(n, -1, many, 0, api.ErrNode)
	}
	for _, show := range []int{-1, 31, 32, 1 << 40, math.MinInt, math.MaxInt} {
		want(1, show, many, 0, api.ErrKind)
	}
	want(1, allKinds, slices.Repeat([]api.Rule{ok}, 11), 0, api.ErrLong)
	want(1, allKinds, many[:11], 0, api.ErrLong)
	want(1, allKinds, many[:10], 0, api.ErrRule)
	for _, name := range []string{"", "A", "abcdefghi", "a b", "*", "é", strings.Repeat("x", 1000)} {
		for verdict := api.Accept; verdict <= api.Skip; verdict++ {
			want(1, 0, []api.Rule{ok, {Name: name, Verdict: verdict}}, 0, api.ErrRule)
		}
	}
	for _, verdict := range []int{0, -1, 4, math.MinInt, math.MaxInt} {
		want(1, 0, []api.Rule{{Name: "a", Verdict: verdict}, ok}, 0, api.ErrRule)
	}
	// None of these made one.
	want(1, 0, nil, 1, api.OK)
	want(2, allKinds, []api.Rule{}, 2, api.OK)
	want(1, 1, slices.Repeat([]api.Rule{ok}, 10), 3, api.OK)
	for n := 4; n <= api.MaxThings; n++ {
		want(1+n%2, allKinds, nil, n, api.OK)
	}
	want(1, allKinds, nil, 0, api.ErrFull)
	// P1: what is named ahead of it comes first.
	want(3, 31, many, 0, api.ErrNode)
	want(1, 31, many, 0, api.ErrKind)
	want(1, 30, many, 0, api.ErrLong)
	want(1, 30, wrong, 0, api.ErrRule)
}

// P8: lists and walkers are counted apart.
func TestIterErrors(t *testing.T) {
	g := plant(t, "a /")
	for n := 1; n <= api.MaxThings; n++ {
		wantWatch(t, g, 1, api.Nodes, "", n, api.OK)
		wantWalker(t, g, 1, allKinds, nil, n, api.OK)
	}
	wantFilters(t, func(root, show int, rules []api.Rule, n int, err api.Errno) {
		t.Helper()
		wantIter(t, g, root, show, rules, n, err)
	})
	wantOn(t, g, 49, 2, 0)
	wantOn(t, g, 50, 1, 0)
	wantAt(t, g, 48, 1, true)
}

// P1 and P8
func TestIteratorsThatThereAreNot(t *testing.T) {
	g := plant(t, "a b")
	under(t, g, 1, 2)
	wantIter(t, g, 1, allKinds, nil, 1, api.OK)
	wantWatch(t, g, 1, api.Nodes, "", 1, api.OK)
	wantWatch(t, g, 1, api.Nodes, "", 2, api.OK)
	for _, iter := range []int{0, -1, 2, 50, 51, math.MinInt, math.MaxInt} {
		for _, back := range []bool{false, true} {
			if n, err := g.Step(iter, back); n != 0 || err != api.ErrThing {
				t.Errorf("Step(%d, %t) = %d, %d, want 0, ErrThing", iter, back, n, err)
			}
		}
		if n, ahead, err := g.At(iter); n != 0 || ahead || err != api.ErrThing {
			t.Errorf("At(%d) = %d, %t, %d, want 0, false, ErrThing", iter, n, ahead, err)
		}
	}
}

// P2: the list of rules is not written into, nor its spare room, nor kept.
func TestRulesAreTheCallers(t *testing.T) {
	g := orchard(t)
	mine := []api.Rule{{Name: "b", Verdict: api.Skip}, {Name: "c", Verdict: api.Skip}, {Name: "d", Verdict: api.Skip}}
	was := slices.Clone(mine)
	wantIter(t, g, 1, 1<<api.Element, mine[:2], 1, api.OK)
	wantOn(t, g, 1, 2, 8)
	wantTake(t, g, 8, api.OK)
	if !slices.Equal(mine, was) {
		t.Errorf("the rules became %v", mine)
	}
	for i := range mine {
		mine[i] = api.Rule{Name: "a", Verdict: api.Reject}
	}
	wantBack(t, g, 1, 2, 0)
}
