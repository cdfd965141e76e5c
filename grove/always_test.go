package grove_test

import (
	"math"
	"math/rand"
	"slices"
	"strings"
	"testing"

	"grove/api"
	"grove/grove"
)

// settled is a grove with something of everything.
func settled(t *testing.T) *grove.Grove {
	t.Helper()
	g := plant(t, "/ a b # ! c /")
	under(t, g, 1, 5, 2)
	under(t, g, 2, 3, 4)
	wantSet(t, g, 3, "id", "x", api.OK)
	wantSet(t, g, 3, "class", "x", api.OK)
	wantWatch(t, g, 1, api.ByTag, "b", 1, api.OK)
	wantWatch(t, g, 2, api.ByClass, "x", 2, api.OK)
	wantWatch(t, g, 2, api.Nodes, "", 3, api.OK)
	wantIter(t, g, 1, 30, nil, 1, api.OK)
	wantIter(t, g, 2, 30, nil, 2, api.OK)
	wantOn(t, g, 2, 2, 3, 4)
	wantWalker(t, g, 1, 30, nil, 1, api.OK)
	wantWalker(t, g, 2, 30, nil, 2, api.OK)
	wantMove(t, g, 2, api.ToLast, 4)
	return g
}

// P1: no call panics at any number or text, and what is refused changes
// nothing.
func TestRefusedCallsChangeNothing(t *testing.T) {
	g := settled(t)
	numbers := []int{math.MinInt, -301, -1, 0, 1, 2, 3, 4, 5, 6, 7, 8, 300, 301, 1 << 32, math.MaxInt}
	texts := []string{"", "x", "id", "class", "*", "x y", "ninenines", "\xff\x00", strings.Repeat("x", 41), strings.Repeat("x", 1<<16)}
	rules := [][]api.Rule{nil, {{Name: "b", Verdict: api.Skip}}, {{Name: "b", Verdict: math.MaxInt}}, {{Name: "B", Verdict: api.Skip}}, make([]api.Rule, 11), make([]api.Rule, 1<<16)}
	before := shape(g)
	same := func(what string, n int, err api.Errno) {
		t.Helper()
		if err == api.OK {
			g = settled(t)
			return
		}
		if n != 0 {
			t.Errorf("%s answered %d beside the error %d", what, n, err)
		}
		if after := shape(g); after != before {
			t.Fatalf("%s was refused by %d, but changed\n%sto\n%s", what, err, before, after)
		}
	}
	for _, a := range numbers {
		same("Take", 0, g.Take(a))
		for _, back := range []bool{false, true} {
			n, err := g.Step(a, back)
			same("Step", n, err)
		}
		for _, text := range texts {
			n, err := g.Make(a, text)
			same("Make", n, err)
			same("Unset", 0, g.Unset(a, text))
			for _, value := range texts {
				same("Set", 0, g.Set(a, text, value))
			}
		}
		for _, b := range numbers {
			for _, text := range texts {
				n, err := g.Watch(a, b, text)
				same("Watch", n, err)
			}
			for _, l := range rules {
				n, err := g.Iter(a, b, l)
				same("Iter", n, err)
				n, err = g.Walker(a, b, l)
				same("Walker", n, err)
			}
			n, err := g.Move(a, b)
			same("Move", n, err)
			same("Go", 0, g.Go(a, b))
			for _, c := range numbers {
				same("Put", 0, g.Put(a, b, c))
			}
		}
	}
}

// P1 and P2: looks end at any number or text, and change nothing.
func TestLooksAtAnythingChangeNothing(t *testing.T) {
	g := settled(t)
	before := shape(g)
	for _, a := range []int{math.MinInt, -1, 0, 1, 2, 3, 4, 8, 51, 301, math.MaxInt} {
		g.Kids(a)
		g.Parent(a)
		g.Len(a)
		g.At(a)
		g.Here(a)
		for _, b := range []int{math.MinInt, -1, 0, 1, 2, math.MaxInt} {
			g.Item(a, b)
		}
		for _, text := range []string{"", "x", "\xff", strings.Repeat("x", 1<<16)} {
			g.ById(a, text)
			g.Named(a, text)
		}
		if after := shape(g); after != before {
			t.Fatalf("looks at %d changed\n%sto\n%s", a, before, after)
		}
	}
}

// P1: calls end in the deepest and in the widest tree that there may be.
func TestGreatestTrees(t *testing.T) {
	deep := plant(t, strings.Repeat("a ", api.MaxNodes))
	for n := 2; n <= api.MaxNodes; n++ {
		wantPut(t, deep, n-1, n, 0, api.OK)
	}
	for n := 1; n <= api.MaxNodes; n++ {
		wantPut(t, deep, api.MaxNodes, n, 0, api.ErrPlace)
	}
	wantTake(t, deep, 150, api.OK)
	wantPut(t, deep, api.MaxNodes, 1, 0, api.OK)
	wantParent(t, deep, 1, api.MaxNodes)
	wantKids(t, deep, 149)
	wantWatch(t, deep, 150, api.ByTag, "a", 1, api.OK)
	wantItem(t, deep, 1, api.MaxNodes-2, 149)
	wantSet(t, deep, 149, "id", "x", api.OK)
	wantNamed(t, deep, 1, "x", 149)
	wantById(t, deep, 150, "x", 149, api.OK)
	walkThrough(t, deep, 150)
	goThrough(t, deep, 150)
	wide := plant(t, strings.Repeat("a ", api.MaxNodes))
	var want []int
	for n := 2; n <= api.MaxNodes; n++ {
		wantPut(t, wide, 1, n, 0, api.OK)
		want = append(want, n)
	}
	wantKids(t, wide, 1, want...)
	wantWatch(t, wide, 1, api.ByTag, "a", 1, api.OK)
	wantWatch(t, wide, 1, api.Elements, "", 2, api.OK)
	wantList(t, wide, 1, want...)
	wantList(t, wide, 2, want...)
	walkThrough(t, wide, 1)
	goThrough(t, wide, 1)
}

// walkThrough walks to all 300 nodes within root, on and back, and has moves
// look at all of them in vain.
func walkThrough(t *testing.T, g *grove.Grove, root int) {
	t.Helper()
	wantWalker(t, g, root, allKinds, nil, 1, api.OK)
	wantWalker(t, g, root, 1<<api.Note, nil, 2, api.OK)
	last := root
	for range api.MaxNodes - 1 {
		last, _ = g.Move(1, api.On)
	}
	if last == 0 {
		t.Error("there were less than 299 moves on")
	}
	wantMove(t, g, 1, api.On, 0)
	for _, n := range []int{root, last} {
		wantGo(t, g, 2, n, api.OK)
		for how := api.ToParent; how <= api.On; how++ {
			wantMove(t, g, 2, how, 0)
		}
	}
	for range api.MaxNodes - 2 {
		g.Move(1, api.Back)
	}
	wantMove(t, g, 1, api.Back, root, 0)
}

// goThrough steps through all 300 nodes within root, on and back, and has an
// iterator at the last one fall back to root.
func goThrough(t *testing.T, g *grove.Grove, root int) {
	t.Helper()
	wantIter(t, g, root, allKinds, nil, 1, api.OK)
	last := root
	for range api.MaxNodes {
		last, _ = g.Step(1, false)
	}
	if last == 0 {
		t.Error("there were less than 300 steps on")
	}
	wantOn(t, g, 1, 0)
	for range api.MaxNodes - 1 {
		g.Step(1, true)
	}
	wantBack(t, g, 1, root, 0)
	for range api.MaxNodes {
		g.Step(1, false)
	}
	wantAt(t, g, 1, last, false)
	kids, _ := g.Kids(root)
	for _, k := range kids {
		wantTake(t, g, k, api.OK)
	}
	wantAt(t, g, 1, root, false)
}

// P2: groves know nothing of each other.
func TestGrovesStandApart(t *testing.T) {
	g := plant(t, "a b c")
	h := plant(t, "a b")
	under(t, g, 1, 2, 3)
	wantKids(t, h, 1)
	wantPut(t, h, 1, 3, 0, api.ErrNode)
	under(t, h, 2, 1)
	wantKids(t, g, 1, 2, 3)
	wantKids(t, h, 2, 1)
	wantMake(t, h, api.Text, "", 3, api.OK)
	wantMake(t, g, api.Text, "", 4, api.OK)
	wantSet(t, g, 1, "id", "x", api.OK)
	wantById(t, h, 2, "x", 0, api.OK)
	wantUnset(t, h, 1, "id", api.ErrNone)
	wantWatch(t, g, 1, api.Nodes, "", 1, api.OK)
	wantWatch(t, g, 1, api.ByTag, "*", 2, api.OK)
	wantWatch(t, h, 2, api.Nodes, "", 1, api.OK)
	wantList(t, g, 1, 2, 3)
	wantList(t, h, 1, 1)
	if _, err := h.Len(2); err != api.ErrThing {
		t.Errorf("Len(2) = %d, want ErrThing", err)
	}
	wantIter(t, g, 1, allKinds, nil, 1, api.OK)
	if _, _, err := h.At(1); err != api.ErrThing {
		t.Errorf("At(1) = %d, want ErrThing", err)
	}
	wantIter(t, h, 2, allKinds, nil, 1, api.OK)
	wantOn(t, h, 1, 2, 1)
	wantTake(t, h, 1, api.OK)
	wantAt(t, h, 1, 2, false)
	wantAt(t, g, 1, 1, true)
	wantWalker(t, g, 1, allKinds, nil, 1, api.OK)
	if _, err := h.Here(1); err != api.ErrThing {
		t.Errorf("Here(1) = %d, want ErrThing", err)
	}
	wantWalker(t, h, 3, allKinds, nil, 1, api.OK)
	wantMove(t, g, 1, api.ToLast, 3)
	wantHere(t, h, 1, 3)
	wantGo(t, h, 1, 1, api.OK)
	wantHere(t, g, 1, 3)
	wantGo(t, h, 1, 4, api.ErrNode)
}

// P2: a list that came out is the caller's, spare room and all.
func TestListsAreTheCallers(t *testing.T) {
	g := plant(t, "a b c d e f")
	under(t, g, 1, 2, 3, 4)
	mine, _ := g.Kids(1)
	other, _ := g.Kids(1)
	whole := mine[:cap(mine)]
	for i := range whole {
		whole[i] = 99
	}
	if !slices.Equal(other, []int{2, 3, 4}) {
		t.Errorf("another list became %v", other)
	}
	_ = append(other, 98)
	wantKids(t, g, 1, 2, 3, 4)
	under(t, g, 1, 5)
	wantTake(t, g, 2, api.OK)
	wantKids(t, g, 1, 3, 4, 5)
	if !slices.Equal(other, []int{2, 3, 4}) || slices.ContainsFunc(whole, func(n int) bool { return n != 99 }) {
		t.Errorf("lists that had come out became %v and %v", other, whole)
	}
}

// P2 and P10: looks change nothing, and the same deeds give the same answers.
func TestLooksChangeNothing(t *testing.T) {
	r := rand.New(rand.NewSource(2))
	g, h := plant(t, "/ a b c # ! d"), plant(t, "/ a b c # ! d")
	for how := api.ByTag; how <= api.Nodes; how++ {
		wantWatch(t, g, 2, how, "x", how, api.OK)
		wantWatch(t, h, 2, how, "x", how, api.OK)
		wantIter(t, g, how, allKinds, nil, how, api.OK)
		wantIter(t, h, how, allKinds, nil, how, api.OK)
		wantWalker(t, g, how, allKinds, nil, how, api.OK)
		wantWalker(t, h, how, allKinds, nil, how, api.OK)
	}
	for range 500 {
		p, c, b := r.Intn(9), r.Intn(9), r.Intn(9)*r.Intn(2)
		name := []string{"id", "name", "class"}[r.Intn(3)]
		if once, twice := shape(g), shape(g); once != twice {
			t.Fatalf("a look changed\n%sto\n%s", once, twice)
		}
		if x, y := g.Put(p, c, b), h.Put(p, c, b); x != y {
			t.Fatalf("Put(%d, %d, %d) = %d with looks, %d without", p, c, b, x, y)
		}
		if g.Set(p, name, "x") != h.Set(p, name, "x") || g.Unset(c, name) != h.Unset(c, name) {
			t.Fatalf("Set(%d, %s, x) or Unset(%d, %s) is another one with looks", p, name, c, name)
		}
		if r.Intn(3) == 0 && g.Take(c) != h.Take(c) {
			t.Fatalf("Take(%d) is another one with looks", c)
		}
		iter, back := 1+r.Intn(4), r.Intn(3) == 0
		x, _ := g.Step(iter, back)
		y, _ := h.Step(iter, back)
		if x != y {
			t.Fatalf("Step(%d, %t) = %d with looks, %d without", iter, back, x, y)
		}
		walker, how := 1+r.Intn(4), api.ToParent+r.Intn(7)
		x, _ = g.Move(walker, how)
		y, _ = h.Move(walker, how)
		if x != y {
			t.Fatalf("Move(%d, %d) = %d with looks, %d without", walker, how, x, y)
		}
	}
	if shape(g) != shape(h) {
		t.Errorf("with looks\n%swithout\n%s", shape(g), shape(h))
	}
}

// P1: a grove without nodes refuses all numbers.
func TestEmptyGroveRefusesAllNumbers(t *testing.T) {
	g := grove.New()
	for _, n := range []int{math.MinInt, -1, 0, 1, 2, math.MaxInt} {
		wantPut(t, g, n, n, n, api.ErrNode)
		wantTake(t, g, n, api.ErrNode)
		wantSet(t, g, n, "id", "x", api.ErrNode)
		wantUnset(t, g, n, "id", api.ErrNode)
		wantById(t, g, n, "x", 0, api.ErrNode)
		wantWatch(t, g, n, api.Nodes, "", 0, api.ErrNode)
		if l, err := g.Len(n); l != 0 || err != api.ErrThing {
			t.Errorf("Len(%d) = %d, %d, want 0, ErrThing", n, l, err)
		}
		wantIter(t, g, n, allKinds, nil, 0, api.ErrNode)
		if m, err := g.Step(n, false); m != 0 || err != api.ErrThing {
			t.Errorf("Step(%d, false) = %d, %d, want 0, ErrThing", n, m, err)
		}
		wantWalker(t, g, n, allKinds, nil, 0, api.ErrNode)
		wantGo(t, g, n, n, api.ErrThing)
		if m, err := g.Move(n, api.On); m != 0 || err != api.ErrThing {
			t.Errorf("Move(%d, On) = %d, %d, want 0, ErrThing", n, m, err)
		}
	}
}
