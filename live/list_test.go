package live

import (
	"slices"
	"strings"
	"testing"

	"grove/api"
	"grove/tree"
)

// planted is 1 (a) over 2 (b), 3 (a text) and 4 (b), 2 over 5 (b).
func planted(t *testing.T) *tree.Forest {
	t.Helper()
	f := tree.NewForest()
	for _, c := range []struct {
		kind int
		text string
	}{{api.Element, "a"}, {api.Element, "b"}, {api.Text, ""}, {api.Element, "b"}, {api.Element, "b"}} {
		k, err := tree.NewKind(c.kind, c.text)
		if err != api.OK {
			t.Fatal(err)
		}
		f.Add(k)
	}
	for _, pair := range [][2]int{{1, 2}, {1, 3}, {1, 4}, {2, 5}} {
		f.Insert(pair[0], pair[1], 0)
	}
	return &f
}

func newList(t *testing.T, root, how int, what string) *List {
	t.Helper()
	l, err := NewList(root, how, what)
	if err != api.OK {
		t.Fatalf("NewList(%d, %d, %q): %d", root, how, what, err)
	}
	return &l
}

func wantNodes(t *testing.T, f *tree.Forest, l *List, want ...int) {
	t.Helper()
	if got := l.nodes(f); !slices.Equal(got, want) {
		t.Errorf("the list %d %q has %v, want %v", l.how, l.what, got, want)
	}
}

func TestNewListErrors(t *testing.T) {
	long := strings.Repeat("x", api.MaxData+1)
	for _, c := range []struct {
		how  int
		what string
		err  api.Errno
	}{
		{0, long, api.ErrKind}, {5, "a", api.ErrKind},
		{api.ByTag, "", api.ErrName}, {api.ByTag, long, api.ErrName}, {api.ByTag, "*", api.OK},
		{api.ByClass, long + " ", api.ErrName}, {api.ByClass, long, api.ErrLong}, {api.ByClass, long[1:], api.OK},
		{api.Elements, long, api.ErrLong}, {api.Elements, "", api.OK},
		{api.Nodes, long, api.ErrLong}, {api.Nodes, " ", api.OK},
	} {
		if _, err := NewList(1, c.how, c.what); err != c.err {
			t.Errorf("NewList(1, %d, %q): %d, want %d", c.how, c.what, err, c.err)
		}
	}
}

func TestListsOfAllKinds(t *testing.T) {
	f := planted(t)
	f.Set(5, "class", "k")
	f.Set(1, "class", "k")
	wantNodes(t, f, newList(t, 1, api.ByTag, "b"), 2, 5, 4)
	wantNodes(t, f, newList(t, 1, api.ByTag, "*"), 2, 5, 4)
	wantNodes(t, f, newList(t, 1, api.ByTag, "a"))
	wantNodes(t, f, newList(t, 1, api.ByClass, "k"), 5)
	wantNodes(t, f, newList(t, 1, api.Elements, ""), 2, 4)
	wantNodes(t, f, newList(t, 1, api.Nodes, ""), 2, 3, 4)
}

// While the stamp is the same nothing is looked for anew: what was found is
// made wrong here, so that a look shows.
func TestSameStampNoLook(t *testing.T) {
	f := planted(t)
	for _, c := range []struct {
		how    int
		what   string
		class  bool // whether a change of a class has it look
		looked []int
	}{
		{api.ByTag, "b", false, []int{2, 5, 4}},
		{api.ByClass, "k", true, []int{4}},
		{api.Elements, "", false, []int{2, 4}},
		{api.Nodes, "", false, []int{2, 3, 4}},
	} {
		l := newList(t, 1, c.how, c.what)
		l.nodes(f)
		spoilt := []int{99}
		l.found = spoilt
		wantNodes(t, f, l, 99)
		f.Set(4, "id", "k")
		wantNodes(t, f, l, 99)
		f.Set(4, "class", "k")
		if c.class {
			wantNodes(t, f, l, c.looked...)
			l.found = spoilt
		}
		wantNodes(t, f, l, 99)
		f.Remove(3)
		f.Insert(1, 3, 4)
		wantNodes(t, f, l, c.looked...)
	}
}
