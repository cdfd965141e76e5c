package grove_test

import (
	"math"
	"strings"
	"testing"

	"grove/api"
	"grove/grove"
)

func wantMake(t *testing.T, g *grove.Grove, kind int, text string, want int, wantErr api.Errno) {
	t.Helper()
	if n, err := g.Make(kind, text); n != want || err != wantErr {
		t.Errorf("Make(%d, %q) = %d, %d, want %d, %d", kind, text, n, err, want, wantErr)
	}
}

// P3
func TestNewHasNoNodes(t *testing.T) {
	g := grove.New()
	if g == nil {
		t.Fatal("New() = nil")
	}
	if _, err := g.Kids(1); err != api.ErrNode {
		t.Errorf("Kids(1) of a new grove: %d, want ErrNode", err)
	}
}

// P3
func TestMakeNumbersNodesAsTheyAreMade(t *testing.T) {
	g := grove.New()
	wantMake(t, g, api.Note, "first", 1, api.OK)
	wantMake(t, g, api.Root, "", 2, api.OK)
	wantMake(t, g, api.Element, "", 0, api.ErrName)
	wantMake(t, g, api.Element, "tag", 3, api.OK)
	wantMake(t, g, api.Text, "", 4, api.OK)
	for n := 1; n <= 4; n++ {
		wantParent(t, g, n, 0)
		wantKids(t, g, n)
	}
	if _, err := g.Kids(5); err != api.ErrNode {
		t.Errorf("Kids(5) of four nodes: %d, want ErrNode", err)
	}
}

// P3
func TestMakeKinds(t *testing.T) {
	g := grove.New()
	for _, kind := range []int{0, -1, 5, 6, math.MinInt, math.MaxInt} {
		wantMake(t, g, kind, "a", 0, api.ErrKind)
	}
	for i, kind := range []int{api.Root, api.Element, api.Text, api.Note} {
		wantMake(t, g, kind, "a", i+1, api.OK)
	}
}

// P3
func TestMakeNames(t *testing.T) {
	g := grove.New()
	wrong := []string{"", "abcdefghi", "A", "aZ", "a1", "a b", " a", "a ", "a-b", "*", "`", "{", "é", "ａ", "a\x00", "\xff", strings.Repeat("a", 41)}
	for _, tag := range wrong {
		wantMake(t, g, api.Element, tag, 0, api.ErrName)
	}
	for i, tag := range []string{"a", "z", "az", "abcdefgh", "zzzzzzzz"} {
		wantMake(t, g, api.Element, tag, i+1, api.OK)
	}
}

// P3
func TestMakeLongTexts(t *testing.T) {
	g := grove.New()
	made := 0
	for _, kind := range []int{api.Root, api.Text, api.Note} {
		for _, text := range []string{"", "Not a name!", strings.Repeat("x", 40), strings.Repeat("é", 20)} {
			made++
			wantMake(t, g, kind, text, made, api.OK)
		}
		for _, text := range []string{strings.Repeat("x", 41), strings.Repeat("é", 20) + "x", strings.Repeat("x", 100000)} {
			wantMake(t, g, kind, text, 0, api.ErrLong)
		}
	}
}

// P3
func TestMakeUntilFull(t *testing.T) {
	g := grove.New()
	for n := 1; n <= api.MaxNodes; n++ {
		wantMake(t, g, api.Root+n%4, "a", n, api.OK)
	}
	for kind := api.Root; kind <= api.Note; kind++ {
		wantMake(t, g, kind, "a", 0, api.ErrFull)
	}
	if _, err := g.Kids(301); err != api.ErrNode {
		t.Errorf("Kids(301) of a full grove: %d, want ErrNode", err)
	}
	wantParent(t, g, 300, 0)
}

// P1 and P3
func TestMakeErrorsInTheirOrder(t *testing.T) {
	g := grove.New()
	long := strings.Repeat("x", 41)
	wantMake(t, g, 0, long, 0, api.ErrKind)
	wantMake(t, g, api.Element, long, 0, api.ErrName)
	for range api.MaxNodes {
		g.Make(api.Text, "")
	}
	wantMake(t, g, 5, long, 0, api.ErrKind)
	wantMake(t, g, api.Element, long, 0, api.ErrName)
	wantMake(t, g, api.Root, long, 0, api.ErrLong)
	wantMake(t, g, api.Text, long, 0, api.ErrLong)
	wantMake(t, g, api.Note, long, 0, api.ErrLong)
}
