package grove_test

import (
	"math"
	"strings"
	"testing"

	"grove/api"
	"grove/grove"
)

func wantSet(t *testing.T, g *grove.Grove, node int, name, value string, want api.Errno) {
	t.Helper()
	if err := g.Set(node, name, value); err != want {
		t.Errorf("Set(%d, %q, %q) = %d, want %d", node, name, value, err, want)
	}
}

func wantUnset(t *testing.T, g *grove.Grove, node int, name string, want api.Errno) {
	t.Helper()
	if err := g.Unset(node, name); err != want {
		t.Errorf("Unset(%d, %q) = %d, want %d", node, name, err, want)
	}
}

func wantById(t *testing.T, g *grove.Grove, root int, id string, want int, wantErr api.Errno) {
	t.Helper()
	if n, err := g.ById(root, id); n != want || err != wantErr {
		t.Errorf("ById(%d, %q) = %d, %d, want %d, %d", root, id, n, err, want, wantErr)
	}
}

// P6
func TestSetGivesTheAttributeThisValue(t *testing.T) {
	g := plant(t, "a b")
	under(t, g, 1, 2)
	wantById(t, g, 1, "x", 0, api.OK)
	wantSet(t, g, 2, "id", "x", api.OK)
	wantById(t, g, 1, "x", 2, api.OK)
	wantSet(t, g, 2, "id", "y", api.OK)
	wantById(t, g, 1, "x", 0, api.OK)
	wantById(t, g, 1, "y", 2, api.OK)
	wantSet(t, g, 2, "id", "", api.OK)
	wantById(t, g, 1, "y", 0, api.OK)
	wantById(t, g, 1, "", 0, api.OK)
}

// P6
func TestUnsetTakesTheAttributeAway(t *testing.T) {
	g := plant(t, "a b")
	under(t, g, 1, 2)
	wantUnset(t, g, 2, "id", api.ErrNone)
	wantSet(t, g, 2, "id", "x", api.OK)
	wantSet(t, g, 2, "name", "", api.OK)
	wantUnset(t, g, 1, "id", api.ErrNone) // another element's
	wantUnset(t, g, 2, "id", api.OK)
	wantById(t, g, 1, "x", 0, api.OK)
	wantUnset(t, g, 2, "id", api.ErrNone)
	wantUnset(t, g, 2, "name", api.OK) // there, though its value is empty
	wantUnset(t, g, 2, "name", api.ErrNone)
	wantSet(t, g, 2, "id", "x", api.OK)
	wantById(t, g, 1, "x", 2, api.OK)
}

// P6: attributes go with the element, wherever it is put.
func TestAttributesStayWithTheElement(t *testing.T) {
	g := plant(t, "a b c")
	wantSet(t, g, 3, "id", "x", api.OK)
	under(t, g, 1, 2, 3)
	wantById(t, g, 1, "x", 3, api.OK)
	wantTake(t, g, 3, api.OK)
	wantById(t, g, 1, "x", 0, api.OK)
	under(t, g, 2, 3)
	wantById(t, g, 1, "x", 3, api.OK)
	wantById(t, g, 2, "x", 3, api.OK)
}

// P6: an element may have very many.
func TestManyAttributes(t *testing.T) {
	g := plant(t, "a")
	for pass := range 3 {
		for i := range 26 * 26 * 26 {
			name := string([]byte{'a' + byte(i/676), 'a' + byte(i/26%26), 'a' + byte(i%26)})
			if pass == 0 {
				wantSet(t, g, 1, name, name, api.OK)
			} else {
				wantUnset(t, g, 1, name, []api.Errno{api.OK, api.ErrNone}[pass-1])
			}
		}
	}
}

// P6
func TestByIdTellsTheFirstInTheOrderOfTheTree(t *testing.T) {
	g := plant(t, "/ a b c d # !")
	under(t, g, 1, 2)
	under(t, g, 2, 6, 3, 7, 5)
	under(t, g, 3, 4)
	for _, n := range []int{2, 4, 5} {
		wantSet(t, g, n, "id", "x", api.OK)
	}
	wantById(t, g, 1, "x", 2, api.OK)
	wantById(t, g, 2, "x", 4, api.OK) // not itself; and deeper, but ahead
	wantById(t, g, 3, "x", 4, api.OK)
	wantById(t, g, 4, "x", 0, api.OK)
	wantById(t, g, 6, "x", 0, api.OK)
	wantPut(t, g, 2, 5, 3, api.OK)
	wantById(t, g, 2, "x", 5, api.OK)
	wantTake(t, g, 5, api.OK)
	wantById(t, g, 2, "x", 4, api.OK)
	wantById(t, g, 5, "x", 0, api.OK)
	wantTake(t, g, 2, api.OK)
	wantById(t, g, 1, "x", 0, api.OK)
}

// P6: only the attribute id counts, and all of its bytes.
func TestByIdTakesTheWholeValue(t *testing.T) {
	g := plant(t, "a b c")
	under(t, g, 1, 2, 3)
	wantSet(t, g, 2, "name", "x", api.OK)
	wantSet(t, g, 2, "ids", "x", api.OK)
	wantSet(t, g, 2, "class", "x", api.OK)
	wantById(t, g, 1, "x", 0, api.OK)
	long := strings.Repeat("x", 40)
	for _, id := range []string{long, "x y", " ", "X", "\x00\xff", "é"} {
		wantSet(t, g, 3, "id", id, api.OK)
		wantById(t, g, 1, id, 3, api.OK)
		wantById(t, g, 1, id+"x", 0, api.OK)
		wantById(t, g, 1, id[1:], 0, api.OK)
		wantById(t, g, 1, "x", 0, api.OK)
	}
}

// P6
func TestAttributesOfWhatIsNoElement(t *testing.T) {
	g := plant(t, "/ # ! a")
	for n := 1; n <= 3; n++ {
		wantSet(t, g, n, "id", "x", api.ErrKind)
		wantUnset(t, g, n, "id", api.ErrKind)
	}
	for _, n := range []int{0, -1, 5, 301, math.MinInt, math.MaxInt} {
		wantSet(t, g, n, "id", "x", api.ErrNode)
		wantUnset(t, g, n, "id", api.ErrNode)
		wantById(t, g, n, "x", 0, api.ErrNode)
		wantById(t, g, n, "", 0, api.ErrNode)
	}
}

// P6
func TestAttributesOfWrongNamesAndLongValues(t *testing.T) {
	g := plant(t, "a")
	for _, name := range []string{"", "abcdefghi", "A", "a1", "a b", "*", "é", "\xff"} {
		wantSet(t, g, 1, name, "x", api.ErrName)
		wantUnset(t, g, 1, name, api.ErrName)
	}
	wantSet(t, g, 1, "abcdefgh", strings.Repeat("é", 20), api.OK)
	wantSet(t, g, 1, "abcdefgh", strings.Repeat("é", 20)+"x", api.ErrLong)
	wantSet(t, g, 1, "z", strings.Repeat("x", 41), api.ErrLong)
	wantUnset(t, g, 1, "z", api.ErrNone)
	wantUnset(t, g, 1, "abcdefgh", api.OK)
}

// P1 and P6: a value that is refused leaves the one that was.
func TestRefusedSetLeavesTheValue(t *testing.T) {
	g := plant(t, "a b")
	under(t, g, 1, 2)
	wantSet(t, g, 2, "id", "x", api.OK)
	wantSet(t, g, 2, "id", strings.Repeat("x", 41), api.ErrLong)
	wantById(t, g, 1, "x", 2, api.OK)
}

// P1 and P6
func TestAttributeErrorsInTheirOrder(t *testing.T) {
	g := plant(t, "a #")
	long := strings.Repeat("x", 41)
	wantSet(t, g, 3, "A", long, api.ErrNode)
	wantSet(t, g, 2, "A", long, api.ErrKind)
	wantSet(t, g, 1, "A", long, api.ErrName)
	wantSet(t, g, 1, "a", long, api.ErrLong)
	wantUnset(t, g, 3, "A", api.ErrNode)
	wantUnset(t, g, 2, "A", api.ErrKind)
	wantUnset(t, g, 1, "A", api.ErrName)
	wantUnset(t, g, 1, "a", api.ErrNone)
}
