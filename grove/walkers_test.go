package grove_test

import (
	"math"
	"slices"
	"testing"

	"grove/api"
	"grove/grove"
)

func wantWalker(t *testing.T, g *grove.Grove, root, show int, rules []api.Rule, want int, wantErr api.Errno) {
	t.Helper()
	if n, err := g.Walker(root, show, rules); n != want || err != wantErr {
		t.Errorf("Walker(%d, %d, %v) = %d, %d, want %d, %d", root, show, rules, n, err, want, wantErr)
	}
}

// wantMove makes the same move again and again.
func wantMove(t *testing.T, g *grove.Grove, walker, how int, want ...int) {
	t.Helper()
	for _, w := range want {
		if n, err := g.Move(walker, how); n != w || err != api.OK {
			t.Errorf("Move(%d, %d) = %d, %d, want %d of %v, OK", walker, how, n, err, w, want)
		}
	}
}

func wantHere(t *testing.T, g *grove.Grove, walker, want int) {
	t.Helper()
	if n, err := g.Here(walker); n != want || err != api.OK {
		t.Errorf("Here(%d) = %d, %d, want %d, OK", walker, n, err, want)
	}
}

func wantGo(t *testing.T, g *grove.Grove, walker, node int, want api.Errno) {
	t.Helper()
	if err := g.Go(walker, node); err != want {
		t.Errorf("Go(%d, %d) = %d, want %d", walker, node, err, want)
	}
}

// found is what the seven moves find from one node, in the order of their
// numbers: ToParent, ToFirst, ToLast, ToPrevious, ToNext, Back, On.
type found [7]int

// wantFound makes each of the moves from the same node; behind each the walker
// is at what was found, or has stayed.
func wantFound(t *testing.T, g *grove.Grove, walker, from int, want found) {
	t.Helper()
	for i, w := range want {
		how := api.ToParent + i
		wantGo(t, g, walker, from, api.OK)
		if n, err := g.Move(walker, how); n != w || err != api.OK {
			t.Errorf("from %d Move(%d, %d) = %d, %d, want %d, OK", from, walker, how, n, err, w)
		}
		if w == 0 {
			w = from
		}
		wantHere(t, g, walker, w)
	}
}

func rule(name string, verdict int) api.Rule { return api.Rule{Name: name, Verdict: verdict} }

// P9: the document's fourth example.
func TestFourthExample(t *testing.T) {
	g := plant(t, "a b # b")
	under(t, g, 1, 4)
	wantWalker(t, g, 1, 4, []api.Rule{rule("b", api.Skip)}, 1, api.OK)
	wantMove(t, g, 1, api.On, 0)
	wantHere(t, g, 1, 1)
	wantWalker(t, g, 1, 4, nil, 2, api.OK)
	wantMove(t, g, 2, api.On, 4)
	wantMove(t, g, 2, api.ToNext, 0)
	wantMove(t, g, 2, api.ToParent, 1)
	wantHere(t, g, 2, 1)
}

// P9: the numbers of the moves are those of the document.
func TestMovesByTheirNumbers(t *testing.T) {
	g := plant(t, "a b c d e f g h")
	under(t, g, 1, 2, 3, 6)
	under(t, g, 2, 7)
	under(t, g, 3, 4, 5)
	under(t, g, 6, 8)
	wantWalker(t, g, 1, allKinds, nil, 1, api.OK)
	wantFound(t, g, 1, 3, found{1, 4, 5, 2, 6, 7, 4})
	for i, how := range []int{api.ToParent, api.ToFirst, api.ToLast, api.ToPrevious, api.ToNext, api.Back, api.On} {
		if how != i+1 {
			t.Errorf("the move %d of the document is %d", i+1, how)
		}
	}
}

// P9: all are accepted.
func TestMovesAmongAll(t *testing.T) {
	g := orchard(t)
	wantWalker(t, g, 1, allKinds, nil, 1, api.OK)
	wantHere(t, g, 1, 1)
	wantFound(t, g, 1, 1, found{0, 2, 2, 0, 0, 0, 2})
	wantFound(t, g, 1, 2, found{1, 3, 7, 0, 0, 1, 3})
	wantFound(t, g, 1, 3, found{2, 4, 5, 0, 6, 2, 4})
	wantFound(t, g, 1, 4, found{3, 0, 0, 0, 5, 3, 5})
	wantFound(t, g, 1, 5, found{3, 0, 0, 4, 0, 4, 6})
	wantFound(t, g, 1, 6, found{2, 0, 0, 3, 7, 5, 7})
	wantFound(t, g, 1, 7, found{2, 8, 8, 6, 0, 6, 8})
	wantFound(t, g, 1, 8, found{7, 9, 9, 0, 0, 7, 9})
	wantFound(t, g, 1, 9, found{8, 0, 0, 0, 0, 8, 0})
}

// P9: what is skipped is passed over, and what is under it stands in its place.
func TestMovesPastWhatIsSkipped(t *testing.T) {
	g := orchard(t)
	wantWalker(t, g, 1, allKinds, []api.Rule{rule("b", api.Skip), rule("b", api.Reject)}, 1, api.OK)
	wantFound(t, g, 1, 2, found{1, 4, 8, 0, 0, 1, 4})
	wantFound(t, g, 1, 3, found{2, 4, 5, 0, 6, 2, 4})
	wantFound(t, g, 1, 4, found{2, 0, 0, 0, 5, 2, 5})
	wantFound(t, g, 1, 5, found{2, 0, 0, 4, 6, 4, 6})
	wantFound(t, g, 1, 6, found{2, 0, 0, 5, 8, 5, 8})
	wantFound(t, g, 1, 7, found{2, 8, 8, 6, 0, 6, 8})
	wantFound(t, g, 1, 8, found{2, 9, 9, 6, 0, 6, 9})
	wantFound(t, g, 1, 9, found{8, 0, 0, 0, 0, 8, 0})
	// What is not shown is skipped, whatever a rule says of it.
	wantWalker(t, g, 1, 1<<api.Text, []api.Rule{rule("a", api.Reject), rule("b", api.Accept)}, 2, api.OK)
	wantFound(t, g, 2, 1, found{0, 4, 9, 0, 0, 0, 4})
	wantFound(t, g, 2, 4, found{0, 0, 0, 0, 9, 0, 9})
	wantFound(t, g, 2, 9, found{0, 0, 0, 4, 0, 4, 0})
	wantFound(t, g, 2, 6, found{0, 0, 0, 4, 9, 4, 9})
}

// P9: what is rejected is passed over with all that is under it; but a walker
// that begins there sees it.
func TestMovesPastWhatIsRejected(t *testing.T) {
	g := orchard(t)
	wantWalker(t, g, 1, allKinds, []api.Rule{rule("b", api.Reject), rule("b", api.Accept)}, 1, api.OK)
	wantFound(t, g, 1, 2, found{1, 6, 6, 0, 0, 1, 6})
	wantFound(t, g, 1, 3, found{2, 4, 5, 0, 6, 2, 4})
	wantFound(t, g, 1, 4, found{2, 0, 0, 0, 5, 2, 5})
	wantFound(t, g, 1, 5, found{2, 0, 0, 4, 6, 4, 6})
	wantFound(t, g, 1, 6, found{2, 0, 0, 0, 0, 2, 0})
	wantFound(t, g, 1, 7, found{2, 8, 8, 6, 0, 6, 8})
	wantFound(t, g, 1, 8, found{2, 9, 9, 6, 0, 6, 9})
	wantFound(t, g, 1, 9, found{8, 0, 0, 0, 0, 8, 0})
}

// P9: nothing is rejected for a kind that is not shown, and what is rejected
// within something skipped is passed over on the way in.
func TestMovesAmongSkippedAndRejected(t *testing.T) {
	g := orchard(t)
	wantWalker(t, g, 1, allKinds, []api.Rule{rule("b", api.Skip), rule("c", api.Reject), rule("d", api.Reject)}, 1, api.OK)
	wantFound(t, g, 1, 2, found{1, 4, 6, 0, 0, 1, 4})
	wantFound(t, g, 1, 4, found{2, 0, 0, 0, 6, 2, 6})
	wantFound(t, g, 1, 6, found{2, 0, 0, 4, 0, 4, 0})
	wantFound(t, g, 1, 9, found{2, 0, 0, 6, 0, 6, 0})
	wantWalker(t, g, 1, 0, []api.Rule{rule("b", api.Accept)}, 2, api.OK)
	for n := 1; n <= 9; n++ {
		wantFound(t, g, 2, n, found{})
	}
}

// P9: a walker that begins within its root does not leave it, whatever stands
// beside and above.
func TestMovesStayWithinTheRoot(t *testing.T) {
	g := orchard(t)
	wantWalker(t, g, 3, allKinds, nil, 1, api.OK)
	wantFound(t, g, 1, 3, found{0, 4, 5, 0, 0, 0, 4})
	wantFound(t, g, 1, 4, found{3, 0, 0, 0, 5, 3, 5})
	wantFound(t, g, 1, 5, found{3, 0, 0, 4, 0, 4, 0})
	// a root without kids, between others
	wantWalker(t, g, 6, allKinds, nil, 2, api.OK)
	wantFound(t, g, 2, 6, found{})
	// one that is not accepted itself
	for i, verdict := range []int{api.Skip, api.Reject} {
		wantWalker(t, g, 3, allKinds, []api.Rule{rule("b", verdict)}, 3+i, api.OK)
		wantFound(t, g, 3+i, 3, found{0, 4, 5, 0, 0, 0, 4})
		wantFound(t, g, 3+i, 4, found{0, 0, 0, 0, 5, 0, 5})
		wantFound(t, g, 3+i, 5, found{0, 0, 0, 4, 0, 4, 0})
	}
	// two levels under the root, each in vain
	wantWalker(t, g, 7, 1<<api.Note, nil, 5, api.OK)
	for n := 7; n <= 9; n++ {
		wantFound(t, g, 5, n, found{})
	}
}

// P9: a walker may be anywhere, and its moves end: at the latest at the top.
func TestMovesOutsideOfTheRoot(t *testing.T) {
	g := orchard(t)
	wantMake(t, g, api.Element, "a", 10, api.OK)
	wantMake(t, g, api.Element, "a", 11, api.OK)
	under(t, g, 10, 11)
	wantWalker(t, g, 3, allKinds, nil, 1, api.OK)
	wantFound(t, g, 1, 1, found{0, 2, 2, 0, 0, 0, 2})
	wantFound(t, g, 1, 2, found{1, 3, 7, 0, 0, 1, 3})
	wantFound(t, g, 1, 6, found{2, 0, 0, 3, 7, 5, 7})
	wantFound(t, g, 1, 9, found{8, 0, 0, 0, 0, 8, 0})
	wantFound(t, g, 1, 10, found{0, 11, 11, 0, 0, 0, 11})
	wantFound(t, g, 1, 11, found{10, 0, 0, 0, 0, 10, 0})
	wantWalker(t, g, 3, 0, nil, 2, api.OK)
	for n := 1; n <= 11; n++ {
		wantFound(t, g, 2, n, found{})
	}
}

// P9: from outside, what the root stands under and what is beyond it is not
// come to through the root; but a root that is passed over as a sibling hides
// nothing but from Back and On.
func TestMovesFromOutsideThroughTheRoot(t *testing.T) {
	g := plant(t, "a b c d # e")
	under(t, g, 1, 2, 3, 4, 6)
	under(t, g, 3, 5)
	elements := 1 << api.Element
	skip, reject := []api.Rule{rule("c", api.Skip), rule("b", api.Skip)}, []api.Rule{rule("c", api.Reject), rule("b", api.Skip)}
	// The root is 3: its kid, a text, is looked at in vain, and there it ends.
	wantWalker(t, g, 3, elements, skip, 1, api.OK)
	wantFound(t, g, 1, 1, found{0, 0, 6, 0, 0, 0, 0})
	wantFound(t, g, 1, 2, found{1, 0, 0, 0, 0, 1, 0})
	wantFound(t, g, 1, 4, found{1, 0, 0, 0, 6, 0, 6})
	// Rejected, it is no way in. On meets it as it goes on from there.
	wantWalker(t, g, 3, elements, reject, 2, api.OK)
	wantFound(t, g, 2, 1, found{0, 4, 6, 0, 0, 0, 0})
	wantFound(t, g, 2, 2, found{1, 0, 0, 0, 4, 1, 0})
	wantFound(t, g, 2, 4, found{1, 0, 0, 0, 6, 1, 6})
	// Without kids, and the first of all: nothing is ahead of it.
	wantTake(t, g, 5, api.OK)
	wantFound(t, g, 1, 1, found{0, 4, 6, 0, 0, 0, 0})
	wantFound(t, g, 1, 4, found{1, 0, 0, 0, 6, 1, 6})
	wantTake(t, g, 2, api.OK)
	wantFound(t, g, 1, 4, found{1, 0, 0, 0, 6, 0, 6})
	wantFound(t, g, 2, 4, found{1, 0, 0, 0, 6, 0, 6})
}

// P9: the sibling of a parent counts only if that parent is not accepted, and
// is not the root.
func TestSiblingsOfParents(t *testing.T) {
	g := plant(t, "a b c d # # #")
	under(t, g, 1, 5, 2, 6)
	under(t, g, 2, 3)
	under(t, g, 3, 4)
	under(t, g, 4, 7)
	skip := func(tags ...string) []api.Rule {
		var l []api.Rule
		for _, tag := range tags {
			l = append(l, rule(tag, api.Skip))
		}
		return l
	}
	for i, c := range []struct {
		root  int
		rules []api.Rule
		want  found // from 7
	}{
		{1, skip("d"), found{3, 0, 0, 0, 0, 3, 6}},
		{1, skip("d", "c"), found{2, 0, 0, 0, 0, 2, 6}},
		{1, skip("d", "c", "b"), found{1, 0, 0, 5, 6, 5, 6}},
		{2, skip("d", "c", "b"), found{}},
		{4, skip("d", "c", "b"), found{}},
		{7, nil, found{}},
		{6, skip("d", "c", "b"), found{1, 0, 0, 5, 6, 5, 6}},
	} {
		wantWalker(t, g, c.root, allKinds, c.rules, i+1, api.OK)
		wantFound(t, g, i+1, 7, c.want)
	}
}

// P9: the walker goes on from where it is, though that was taken or put
// elsewhere, and no removal changes where it is.
func TestWalkersStayWhereTheyAre(t *testing.T) {
	g := orchard(t)
	wantWalker(t, g, 1, allKinds, nil, 1, api.OK)
	wantMove(t, g, 1, api.On, 2, 3, 4, 5)
	wantTake(t, g, 3, api.OK)
	wantHere(t, g, 1, 5)
	wantFound(t, g, 1, 5, found{3, 0, 0, 4, 0, 4, 0})
	wantFound(t, g, 1, 3, found{0, 4, 5, 0, 0, 0, 4})
	wantTake(t, g, 5, api.OK)
	wantFound(t, g, 1, 5, found{})
	wantPut(t, g, 8, 5, 9, api.OK)
	wantHere(t, g, 1, 5)
	wantFound(t, g, 1, 5, found{8, 0, 0, 0, 9, 8, 9})
	// The root itself is taken: the walker is outside of it now.
	wantWalker(t, g, 7, allKinds, nil, 2, api.OK)
	wantGo(t, g, 2, 6, api.OK)
	wantTake(t, g, 7, api.OK)
	wantHere(t, g, 2, 6)
	wantMove(t, g, 2, api.On, 0)
	wantMove(t, g, 2, api.Back, 2, 1, 0)
}

// P9
func TestGo(t *testing.T) {
	g := orchard(t)
	wantWalker(t, g, 3, 0, nil, 1, api.OK)
	wantWalker(t, g, 3, allKinds, nil, 2, api.OK)
	for n := 1; n <= 9; n++ {
		wantGo(t, g, 1, n, api.OK)
		wantHere(t, g, 1, n)
		wantHere(t, g, 2, 3)
	}
	for _, n := range []int{0, -1, 10, 300, 301, math.MinInt, math.MaxInt} {
		wantGo(t, g, 1, n, api.ErrNode)
		wantHere(t, g, 1, 9)
	}
}

// P9: and P1, as ErrThing is named ahead of the others.
func TestWalkersThatThereAreNot(t *testing.T) {
	g := plant(t, "a b")
	under(t, g, 1, 2)
	wantWalker(t, g, 1, allKinds, nil, 1, api.OK)
	for n := 1; n <= 2; n++ {
		wantWatch(t, g, 1, api.Nodes, "", n, api.OK)
		wantIter(t, g, 1, allKinds, nil, n, api.OK)
	}
	for _, w := range []int{0, -1, 2, 50, 51, math.MinInt, math.MaxInt} {
		for _, how := range []int{api.On, 0, 8} {
			if n, err := g.Move(w, how); n != 0 || err != api.ErrThing {
				t.Errorf("Move(%d, %d) = %d, %d, want 0, ErrThing", w, how, n, err)
			}
		}
		if n, err := g.Here(w); n != 0 || err != api.ErrThing {
			t.Errorf("Here(%d) = %d, %d, want 0, ErrThing", w, n, err)
		}
		wantGo(t, g, w, 1, api.ErrThing)
		wantGo(t, g, w, 0, api.ErrThing)
	}
}

// P9
func TestMovesThatThereAreNot(t *testing.T) {
	g := orchard(t)
	wantWalker(t, g, 1, allKinds, nil, 1, api.OK)
	wantMove(t, g, 1, api.On, 2)
	for _, how := range []int{0, 8, -1, -7, 1 << 32, 1<<32 + 1, math.MinInt, math.MaxInt} {
		if n, err := g.Move(1, how); n != 0 || err != api.ErrKind {
			t.Errorf("Move(1, %d) = %d, %d, want 0, ErrKind", how, n, err)
		}
		wantHere(t, g, 1, 2)
	}
}

// P9: walkers are counted apart from lists and iterators.
func TestWalkerErrors(t *testing.T) {
	g := plant(t, "a /")
	for n := 1; n <= api.MaxThings; n++ {
		wantWatch(t, g, 1, api.Nodes, "", n, api.OK)
		wantIter(t, g, 1, allKinds, nil, n, api.OK)
	}
	wantFilters(t, func(root, show int, rules []api.Rule, n int, err api.Errno) {
		t.Helper()
		wantWalker(t, g, root, show, rules, n, err)
	})
	wantHere(t, g, 49, 2)
	wantHere(t, g, 50, 1)
	wantGo(t, g, 50, 2, api.OK)
	wantHere(t, g, 48, 1)
}

// P2: the list of rules is not written into, nor its spare room, nor kept.
func TestRulesOfWalkersAreTheCallers(t *testing.T) {
	g := orchard(t)
	mine := []api.Rule{rule("b", api.Skip), rule("c", api.Skip), rule("d", api.Skip)}
	was := slices.Clone(mine)
	wantWalker(t, g, 1, 1<<api.Element, mine[:2], 1, api.OK)
	wantMove(t, g, 1, api.On, 2, 8, 0)
	if !slices.Equal(mine, was) {
		t.Errorf("the rules became %v", mine)
	}
	for i := range mine {
		mine[i] = rule("a", api.Reject)
	}
	wantMove(t, g, 1, api.Back, 2, 0)
	wantMove(t, g, 1, api.ToFirst, 8)
}
