package grove_test

import (
	"math"
	"strings"
	"testing"

	"grove/api"
	"grove/grove"
)

func wantWatch(t *testing.T, g *grove.Grove, root, how int, what string, want int, wantErr api.Errno) {
	t.Helper()
	if n, err := g.Watch(root, how, what); n != want || err != wantErr {
		t.Errorf("Watch(%d, %d, %q) = %d, %d, want %d, %d", root, how, what, n, err, want, wantErr)
	}
}

// wantList holds all that a list answers, past its ends too, against want.
func wantList(t *testing.T, g *grove.Grove, list int, want ...int) {
	t.Helper()
	if n, err := g.Len(list); n != len(want) || err != api.OK {
		t.Errorf("Len(%d) = %d, %d, want %d, OK", list, n, err, len(want))
	}
	for i, k := range append(want, 0) {
		wantItem(t, g, list, i, k)
	}
	for _, i := range []int{-1, len(want) + 1, math.MinInt, math.MaxInt} {
		wantItem(t, g, list, i, 0)
	}
}

func wantItem(t *testing.T, g *grove.Grove, list, i, want int) {
	t.Helper()
	if n, err := g.Item(list, i); n != want || err != api.OK {
		t.Errorf("Item(%d, %d) = %d, %d, want %d, OK", list, i, n, err, want)
	}
}

func wantNamed(t *testing.T, g *grove.Grove, list int, name string, want int) {
	t.Helper()
	if n, err := g.Named(list, name); n != want || err != api.OK {
		t.Errorf("Named(%d, %q) = %d, %d, want %d, OK", list, name, n, err, want)
	}
}

// P6 and P7: the document's second example.
func TestSecondExample(t *testing.T) {
	g := plant(t, "a b # b")
	under(t, g, 1, 4, 3, 2)
	wantWatch(t, g, 1, api.ByTag, "b", 1, api.OK)
	wantList(t, g, 1, 4, 2)
	wantPut(t, g, 1, 4, 0, api.OK)
	wantItem(t, g, 1, 0, 2)
	wantSet(t, g, 2, "id", "x", api.OK)
	wantSet(t, g, 4, "name", "x", api.OK)
	wantNamed(t, g, 1, "x", 2)
	wantById(t, g, 1, "x", 2, api.OK)
	wantTake(t, g, 2, api.OK)
	wantNamed(t, g, 1, "x", 4)
	wantById(t, g, 1, "x", 0, api.OK)
}

// forked is a root 1 over 2 (a), 2 over 3 (b), 4 (a text), 5 (a note), 6 (a);
// 3 over 7 (a) and 8 (a text), 6 over 9 (b).
func forked(t *testing.T) *grove.Grove {
	t.Helper()
	g := plant(t, "/ a b # ! a a # b")
	under(t, g, 1, 2)
	under(t, g, 2, 3, 4, 5, 6)
	under(t, g, 3, 7, 8)
	under(t, g, 6, 9)
	return g
}

// P7
func TestListsByTag(t *testing.T) {
	g := forked(t)
	for i, c := range []struct {
		root int
		what string
		want []int
	}{
		{1, "a", []int{2, 7, 6}},
		{2, "a", []int{7, 6}}, // not root itself
		{2, "b", []int{3, 9}},
		{1, "*", []int{2, 3, 7, 6, 9}},
		{3, "*", []int{7}},
		{1, "aa", nil},
		{9, "*", nil},
		{4, "*", nil}, // a text
	} {
		wantWatch(t, g, c.root, api.ByTag, c.what, i+1, api.OK)
		wantList(t, g, i+1, c.want...)
	}
}

// P7
func TestListsByClass(t *testing.T) {
	g := forked(t)
	wantWatch(t, g, 2, api.ByClass, "x", 1, api.OK)
	wantList(t, g, 1)
	for n, value := range map[int]string{2: "x", 3: "x", 7: "y  x", 6: " x ", 9: "xy"} {
		wantSet(t, g, n, "class", value, api.OK)
	}
	wantList(t, g, 1, 3, 7, 6)
	wantSet(t, g, 9, "class", "x x", api.OK)
	wantSet(t, g, 3, "class", "X", api.OK)
	wantUnset(t, g, 6, "class", api.OK)
	wantList(t, g, 1, 7, 9)
	wantSet(t, g, 7, "class", "y\tx", api.OK) // only a blank cuts
	wantSet(t, g, 3, "id", "x", api.OK)
	wantList(t, g, 1, 9)
	wantWatch(t, g, 1, api.ByClass, "y\tx", 2, api.OK)
	wantList(t, g, 2, 7)
	wantTake(t, g, 9, api.OK)
	wantList(t, g, 1)
	wantSet(t, g, 9, "class", "z", api.OK) // while it stands nowhere
	under(t, g, 3, 9)
	wantList(t, g, 1)
	wantSet(t, g, 9, "class", "x", api.OK)
	wantList(t, g, 1, 9)
}

// P7
func TestListsOfKids(t *testing.T) {
	g := forked(t)
	for i, root := range []int{1, 2, 3, 4} {
		wantWatch(t, g, root, api.Elements, "", 2*i+1, api.OK)
		wantWatch(t, g, root, api.Nodes, "counts for nothing", 2*i+2, api.OK)
	}
	for i, want := range [][]int{{2}, {2}, {3, 6}, {3, 4, 5, 6}, {7}, {7, 8}, nil, nil} {
		wantList(t, g, i+1, want...)
	}
	wantPut(t, g, 2, 8, 3, api.OK)
	wantPut(t, g, 2, 6, 3, api.OK)
	for i, want := range [][]int{{2}, {2}, {6, 3}, {8, 6, 3, 4, 5}, {7}, {7}, nil, nil} {
		wantList(t, g, i+1, want...)
	}
}

// P7 and P10: a list follows its root, and what comes and goes with others.
func TestListsFollowTheTree(t *testing.T) {
	g := plant(t, "a b c b # / d")
	wantWatch(t, g, 1, api.ByTag, "b", 1, api.OK)
	wantWatch(t, g, 2, api.ByTag, "*", 2, api.OK)
	wantWatch(t, g, 6, api.ByTag, "*", 3, api.OK)
	wantList(t, g, 1)
	under(t, g, 3, 4)
	wantList(t, g, 1) // 4 stands, but not under 1
	under(t, g, 1, 3, 2)
	wantList(t, g, 1, 4, 2)
	wantList(t, g, 2)
	under(t, g, 2, 3)
	wantList(t, g, 1, 2, 4)
	wantList(t, g, 2, 3, 4)
	wantList(t, g, 3)
	under(t, g, 6, 1)
	wantList(t, g, 3, 1, 2, 3, 4)
	wantTake(t, g, 2, api.OK)
	wantList(t, g, 1)
	wantList(t, g, 2, 3, 4) // its root stands nowhere
	wantList(t, g, 3, 1)
	if n, err := g.Make(api.Element, "b"); n != 8 || err != api.OK {
		t.Errorf("Make = %d, %d", n, err)
	}
	wantList(t, g, 1)
	under(t, g, 1, 8)
	wantList(t, g, 1, 8)
	wantList(t, g, 3, 1, 8)
}

// P7: a list made after all changes has what there is, though nobody asked
// another one before.
func TestListOfAGrownTree(t *testing.T) {
	g := forked(t)
	wantSet(t, g, 3, "class", "x", api.OK)
	wantWatch(t, g, 1, api.ByClass, "x", 1, api.OK)
	wantItem(t, g, 1, 0, 3)
	wantWatch(t, g, 1, api.ByClass, "x", 2, api.OK)
	wantNamed(t, g, 2, "x", 0)
	wantList(t, g, 2, 3)
}

// P7
func TestNamed(t *testing.T) {
	g := forked(t)
	wantWatch(t, g, 2, api.ByTag, "*", 1, api.OK)
	wantWatch(t, g, 2, api.Nodes, "", 2, api.OK)
	wantWatch(t, g, 2, api.ByTag, "b", 3, api.OK)
	for list := 1; list <= 3; list++ {
		wantNamed(t, g, list, "x", 0)
	}
	wantSet(t, g, 2, "id", "x", api.OK) // under nothing of these
	wantSet(t, g, 9, "id", "x", api.OK)
	wantSet(t, g, 6, "name", "x", api.OK)
	wantNamed(t, g, 1, "x", 6) // a name ahead of an id
	wantNamed(t, g, 2, "x", 6)
	wantNamed(t, g, 3, "x", 9)
	wantSet(t, g, 7, "id", "x", api.OK)
	wantNamed(t, g, 1, "x", 7)
	wantSet(t, g, 7, "name", "y", api.OK) // both count at once
	wantNamed(t, g, 1, "x", 7)
	wantNamed(t, g, 1, "y", 7)
	wantSet(t, g, 3, "class", "x", api.OK)
	wantNamed(t, g, 1, "x", 7)
	wantUnset(t, g, 7, "id", api.OK)
	wantNamed(t, g, 1, "x", 6)
	wantSet(t, g, 6, "name", "xx", api.OK)
	wantNamed(t, g, 1, "x", 9)
	wantNamed(t, g, 2, "x", 0)
	wantTake(t, g, 9, api.OK)
	wantNamed(t, g, 1, "x", 0)
	wantNamed(t, g, 3, "x", 0)
}

// P7
func TestNamedByTheEmptyTextOrAStrangeOne(t *testing.T) {
	g := plant(t, "a b c #")
	under(t, g, 1, 4, 2, 3)
	wantWatch(t, g, 1, api.Nodes, "", 1, api.OK)
	wantSet(t, g, 2, "id", "", api.OK)
	wantSet(t, g, 2, "name", "", api.OK)
	for _, name := range []string{"", "b", "#", strings.Repeat("x", 1000)} {
		wantNamed(t, g, 1, name, 0)
	}
	long := strings.Repeat("x", 40)
	for _, name := range []string{long, "Not a name", "\xff"} {
		wantSet(t, g, 3, "name", name, api.OK)
		wantNamed(t, g, 1, name, 3)
		wantNamed(t, g, 1, name+"x", 0)
	}
}

// P7
func TestWatchErrors(t *testing.T) {
	g := plant(t, "a /")
	long := strings.Repeat("x", 41)
	for _, n := range []int{0, -1, 3, 301, math.MinInt, math.MaxInt} {
		wantWatch(t, g, n, api.ByTag, "a", 0, api.ErrNode)
	}
	for _, how := range []int{0, -1, 5, math.MinInt, math.MaxInt} {
		wantWatch(t, g, 1, how, "a", 0, api.ErrKind)
	}
	for _, what := range []string{"", "A", "**", "a*", "*a", " ", "a b", "abcdefghi", "é", long} {
		wantWatch(t, g, 1, api.ByTag, what, 0, api.ErrName)
	}
	for _, what := range []string{"", " ", "a b", " a", "a ", long + " "} {
		wantWatch(t, g, 1, api.ByClass, what, 0, api.ErrName)
	}
	for _, how := range []int{api.ByClass, api.Elements, api.Nodes} {
		wantWatch(t, g, 1, how, long, 0, api.ErrLong)
	}
	// None of these made a list.
	wantWatch(t, g, 1, api.ByTag, "abcdefgh", 1, api.OK)
	wantWatch(t, g, 2, api.ByTag, "*", 2, api.OK)
	for i, what := range []string{long[1:], "*", "A1-é\t\xff"} {
		wantWatch(t, g, 1, api.ByClass, what, i+3, api.OK)
	}
	wantWatch(t, g, 1, api.Elements, long[1:], 6, api.OK)
	wantWatch(t, g, 1, api.Nodes, "a b", 7, api.OK)
}

// P7
func TestWatchUntilFull(t *testing.T) {
	g := plant(t, "a b")
	under(t, g, 1, 2)
	for n := 1; n <= api.MaxThings; n++ {
		wantWatch(t, g, 1+n%2, api.ByTag+n%4, "b", n, api.OK)
	}
	long := strings.Repeat("x", 41)
	wantWatch(t, g, 1, api.ByTag, "b", 0, api.ErrFull)
	// P1: what is named ahead of it comes first.
	wantWatch(t, g, 3, 5, long, 0, api.ErrNode)
	wantWatch(t, g, 1, 5, long, 0, api.ErrKind)
	wantWatch(t, g, 1, api.ByTag, long, 0, api.ErrName)
	wantWatch(t, g, 1, api.Nodes, long, 0, api.ErrLong)
	wantList(t, g, 49)
	wantList(t, g, 50, 2)
}

// P1 and P7
func TestListsThatThereAreNot(t *testing.T) {
	g := plant(t, "a b")
	under(t, g, 1, 2)
	wantSet(t, g, 2, "id", "x", api.OK)
	wantWatch(t, g, 1, api.Nodes, "", 1, api.OK)
	for _, list := range []int{0, -1, 2, 50, 51, math.MinInt, math.MaxInt} {
		if n, err := g.Len(list); n != 0 || err != api.ErrThing {
			t.Errorf("Len(%d) = %d, %d, want 0, ErrThing", list, n, err)
		}
		if n, err := g.Item(list, 0); n != 0 || err != api.ErrThing {
			t.Errorf("Item(%d, 0) = %d, %d, want 0, ErrThing", list, n, err)
		}
		for _, name := range []string{"", "x"} {
			if n, err := g.Named(list, name); n != 0 || err != api.ErrThing {
				t.Errorf("Named(%d, %q) = %d, %d, want 0, ErrThing", list, name, n, err)
			}
		}
	}
}
