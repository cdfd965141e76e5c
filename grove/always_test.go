package grove_test

import (
	"math"
	"math/rand"
	"slices"
	"strings"
	"testing"

	"grove/api"
	"grove/grove"
)

// P1: no call panics at any number, and what is refused changes nothing.
func TestRefusedCallsChangeNothing(t *testing.T) {
	g := plant(t, "/ a b # ! c /")
	under(t, g, 1, 5, 2)
	under(t, g, 2, 3, 4)
	numbers := []int{math.MinInt, -301, -1, 0, 1, 2, 3, 4, 5, 6, 7, 8, 300, 301, 1 << 32, math.MaxInt}
	texts := []string{"", "ninenines", "\xff\x00", strings.Repeat("x", 41), strings.Repeat("x", 1<<16)}
	before := shape(g)
	same := func(what string, err api.Errno) {
		t.Helper()
		if err == api.OK {
			g = plant(t, "/ a b # ! c /")
			under(t, g, 1, 5, 2)
			under(t, g, 2, 3, 4)
		} else if after := shape(g); after != before {
			t.Fatalf("%s was refused by %d, but changed\n%sto\n%s", what, err, before, after)
		}
	}
	for _, a := range numbers {
		same("Take", g.Take(a))
		for _, text := range texts {
			n, err := g.Make(a, text)
			if err != api.OK && n != 0 {
				t.Errorf("Make(%d, %q) = %d beside the error %d", a, text, n, err)
			}
			same("Make", err)
		}
		for _, b := range numbers {
			for _, c := range numbers {
				same("Put", g.Put(a, b, c))
			}
		}
	}
}

// P1: calls end in the deepest and in the widest tree that there may be.
func TestGreatestTrees(t *testing.T) {
	deep := plant(t, strings.Repeat("a ", api.MaxNodes))
	for n := 2; n <= api.MaxNodes; n++ {
		wantPut(t, deep, n-1, n, 0, api.OK)
	}
	for n := 1; n <= api.MaxNodes; n++ {
		wantPut(t, deep, api.MaxNodes, n, 0, api.ErrPlace)
	}
	wantTake(t, deep, 150, api.OK)
	wantPut(t, deep, api.MaxNodes, 1, 0, api.OK)
	wantParent(t, deep, 1, api.MaxNodes)
	wantKids(t, deep, 149)
	wide := plant(t, strings.Repeat("a ", api.MaxNodes))
	var want []int
	for n := 2; n <= api.MaxNodes; n++ {
		wantPut(t, wide, 1, n, 0, api.OK)
		want = append(want, n)
	}
	wantKids(t, wide, 1, want...)
}

// P2: groves know nothing of each other.
func TestGrovesStandApart(t *testing.T) {
	g := plant(t, "a b c")
	h := plant(t, "a b")
	under(t, g, 1, 2, 3)
	wantKids(t, h, 1)
	wantPut(t, h, 1, 3, 0, api.ErrNode)
	under(t, h, 2, 1)
	wantKids(t, g, 1, 2, 3)
	wantKids(t, h, 2, 1)
	wantMake(t, h, api.Text, "", 3, api.OK)
	wantMake(t, g, api.Text, "", 4, api.OK)
}

// P2: a list that came out is the caller's, spare room and all.
func TestListsAreTheCallers(t *testing.T) {
	g := plant(t, "a b c d e f")
	under(t, g, 1, 2, 3, 4)
	mine, _ := g.Kids(1)
	other, _ := g.Kids(1)
	whole := mine[:cap(mine)]
	for i := range whole {
		whole[i] = 99
	}
	if !slices.Equal(other, []int{2, 3, 4}) {
		t.Errorf("another list became %v", other)
	}
	_ = append(other, 98)
	wantKids(t, g, 1, 2, 3, 4)
	under(t, g, 1, 5)
	wantTake(t, g, 2, api.OK)
	wantKids(t, g, 1, 3, 4, 5)
	if !slices.Equal(other, []int{2, 3, 4}) || slices.ContainsFunc(whole, func(n int) bool { return n != 99 }) {
		t.Errorf("lists that had come out became %v and %v", other, whole)
	}
}

// P2: looks change nothing, and the same deeds give the same answers.
func TestLooksChangeNothing(t *testing.T) {
	r := rand.New(rand.NewSource(2))
	g, h := plant(t, "/ a b c # ! d"), plant(t, "/ a b c # ! d")
	for range 500 {
		p, c, b := r.Intn(9), r.Intn(9), r.Intn(9)*r.Intn(2)
		if once, twice := shape(g), shape(g); once != twice {
			t.Fatalf("a look changed\n%sto\n%s", once, twice)
		}
		if x, y := g.Put(p, c, b), h.Put(p, c, b); x != y {
			t.Fatalf("Put(%d, %d, %d) = %d with looks, %d without", p, c, b, x, y)
		}
		if r.Intn(3) == 0 && g.Take(c) != h.Take(c) {
			t.Fatalf("Take(%d) is another one with looks", c)
		}
	}
	if shape(g) != shape(h) {
		t.Errorf("with looks\n%swithout\n%s", shape(g), shape(h))
	}
}

// P1: a grove without nodes refuses all numbers.
func TestEmptyGroveRefusesAllNumbers(t *testing.T) {
	g := grove.New()
	for _, n := range []int{math.MinInt, -1, 0, 1, 2, math.MaxInt} {
		wantPut(t, g, n, n, n, api.ErrNode)
		wantTake(t, g, n, api.ErrNode)
	}
}
