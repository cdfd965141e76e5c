package grove_test

import (
	"fmt"
	"slices"
	"strings"
	"testing"

	"grove/api"
	"grove/grove"
)

// plant makes a grove of loose nodes, their numbers from 1 on: "/" a root,
// "#" a text, "!" a note, any other word an element of that tag.
func plant(t *testing.T, words string) *grove.Grove {
	t.Helper()
	g := grove.New()
	for i, w := range strings.Fields(words) {
		if n, err := g.Make(kindOf(w), w); n != i+1 || err != api.OK {
			t.Fatalf("Make(%d, %q) = %d, %d, want %d, OK", kindOf(w), w, n, err, i+1)
		}
	}
	return g
}

func kindOf(word string) int {
	switch word {
	case "/":
		return api.Root
	case "#":
		return api.Text
	case "!":
		return api.Note
	}
	return api.Element
}

// under puts kids under a parent, one behind the other.
func under(t *testing.T, g *grove.Grove, parent int, kids ...int) {
	t.Helper()
	for _, k := range kids {
		wantPut(t, g, parent, k, 0, api.OK)
	}
}

func wantPut(t *testing.T, g *grove.Grove, parent, child, before int, want api.Errno) {
	t.Helper()
	if err := g.Put(parent, child, before); err != want {
		t.Errorf("Put(%d, %d, %d) = %d, want %d", parent, child, before, err, want)
	}
}

func wantTake(t *testing.T, g *grove.Grove, node int, want api.Errno) {
	t.Helper()
	if err := g.Take(node); err != want {
		t.Errorf("Take(%d) = %d, want %d", node, err, want)
	}
}

func wantKids(t *testing.T, g *grove.Grove, node int, want ...int) {
	t.Helper()
	if kids, err := g.Kids(node); !slices.Equal(kids, want) || err != api.OK {
		t.Errorf("Kids(%d) = %v, %d, want %v, OK", node, kids, err, want)
	}
	for _, k := range want {
		wantParent(t, g, k, node)
	}
}

func wantParent(t *testing.T, g *grove.Grove, node, want int) {
	t.Helper()
	if p, err := g.Parent(node); p != want || err != api.OK {
		t.Errorf("Parent(%d) = %d, %d, want %d, OK", node, p, err, want)
	}
}

// shape tells all that looks can see of the trees, of the lists, of the
// iterators and of the walkers, and how many there are; of attributes, by the
// names and ids x and y.
func shape(g *grove.Grove) string {
	var b strings.Builder
	for n := 0; ; n++ {
		kids, err := g.Kids(n)
		p, perr := g.Parent(n)
		x, xerr := g.ById(n, "x")
		y, yerr := g.ById(n, "y")
		fmt.Fprintln(&b, n, kids, err, p, perr, x, xerr, y, yerr)
		if n > 0 && err != api.OK {
			break
		}
	}
	for l := 0; ; l++ {
		n, err := g.Len(l)
		x, xerr := g.Named(l, "x")
		y, yerr := g.Named(l, "y")
		fmt.Fprintln(&b, "list", l, n, err, items(g, l), x, xerr, y, yerr)
		if l > 0 && err != api.OK {
			break
		}
	}
	for i := 0; ; i++ {
		n, ahead, err := g.At(i)
		fmt.Fprintln(&b, "iterator", i, n, ahead, err)
		if i > 0 && err != api.OK {
			break
		}
	}
	for w := 0; ; w++ {
		n, err := g.Here(w)
		fmt.Fprintln(&b, "walker", w, n, err)
		if w > 0 && err != api.OK {
			return b.String()
		}
	}
}

// items is what a list has, by Item alone.
func items(g *grove.Grove, list int) []int {
	var l []int
	for i := 0; ; i++ {
		n, _ := g.Item(list, i)
		if n == 0 {
			return l
		}
		l = append(l, n)
	}
}
