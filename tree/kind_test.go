package tree

import (
	"strings"
	"testing"

	"grove/api"
)

func TestNewKind(t *testing.T) {
	long := strings.Repeat("x", api.MaxData+1)
	for _, c := range []struct {
		kind int
		text string
		want Kind
		err  api.Errno
	}{
		{api.Root, "", Root{}, api.OK},
		{api.Root, "counts for nothing", Root{}, api.OK},
		{api.Text, "Says.", Text{Says: "Says."}, api.OK},
		{api.Note, long[1:], Note{Says: long[1:]}, api.OK},
		{0, "tag", nil, api.ErrKind},
		{5, long, nil, api.ErrKind},
		{api.Element, long, nil, api.ErrName},
		{api.Root, long, nil, api.ErrLong},
		{api.Text, long, nil, api.ErrLong},
		{api.Note, long, nil, api.ErrLong},
	} {
		if k, err := NewKind(c.kind, c.text); k != c.want || err != c.err {
			t.Errorf("NewKind(%d, %q) = %v, %d, want %v, %d", c.kind, c.text, k, err, c.want, c.err)
		}
	}
}

func TestNewKindOfElements(t *testing.T) {
	k, err := NewKind(api.Element, "tag")
	if e, ok := k.(*Element); !ok || e.Tag != "tag" || len(e.attributes) != 0 || err != api.OK {
		t.Errorf("NewKind(Element, tag) = %v, %d", k, err)
	}
	// What is set at one of two must not be seen at the other.
	if other, _ := NewKind(api.Element, "tag"); other == k {
		t.Error("two elements are the same")
	}
}

func TestNumberIsThatOfTheApi(t *testing.T) {
	for kind := api.Root; kind <= api.Note; kind++ {
		k, err := NewKind(kind, "a")
		if n := Number(k); n != kind || err != api.OK {
			t.Errorf("Number(%v) = %d, want %d", k, n, kind)
		}
	}
}

func TestWhatKindsMayHave(t *testing.T) {
	for _, c := range []struct {
		kind         Kind
		kids, parent bool
	}{
		{Root{}, true, false},
		{&Element{}, true, true},
		{Text{}, false, true},
		{Note{}, false, true},
	} {
		if c.kind.MayHaveKids() != c.kids || c.kind.MayHaveParent() != c.parent {
			t.Errorf("%T: kids %t, parent %t", c.kind, c.kind.MayHaveKids(), c.kind.MayHaveParent())
		}
	}
}

func TestIsName(t *testing.T) {
	for _, s := range []string{"a", "z", "class", "abcdefgh"} {
		if !IsName(s) {
			t.Errorf("%q is no name", s)
		}
	}
	for _, s := range []string{"", "abcdefghi", "A", "`", "{", "a b", "a1", "é", "\xff"} {
		if IsName(s) {
			t.Errorf("%q is a name", s)
		}
	}
}
