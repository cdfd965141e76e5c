package tree

import "testing"

func TestAttributes(t *testing.T) {
	f := elements(2)
	e := f.Element(1)
	if e.Has("id") || e.Is("id", "") {
		t.Error("a new element has an attribute")
	}
	f.Set(1, "id", "x")
	f.Set(1, "name", "")
	if !e.Is("id", "x") || e.Is("id", "") || !e.Is("name", "") || !e.Has("name") {
		t.Errorf("the attributes are %v", e.attributes)
	}
	f.Set(1, "id", "y")
	if !e.Is("id", "y") || e.Is("id", "x") {
		t.Errorf("the attributes are %v", e.attributes)
	}
	f.Unset(1, "id")
	if e.Has("id") || !e.Has("name") {
		t.Errorf("the attributes are %v", e.attributes)
	}
	if f.Element(2).Has("name") {
		t.Error("another element has it too")
	}
}

func TestClassesAreCutAtBlanks(t *testing.T) {
	f := elements(1)
	e := f.Element(1)
	if e.HasClass("x") || e.HasClass("") {
		t.Error("an element without the attribute has a class")
	}
	for _, c := range []struct {
		value string
		has   bool
	}{
		{"x", true}, {" x", true}, {"x ", true}, {"  x  ", true}, {"y x", true}, {"x y", true}, {"y  x  z", true}, {"x x", true},
		{"", false}, {" ", false}, {"xy", false}, {"yx", false}, {"X", false}, {"x\ty", false}, {"y\nx", false}, {"x,y", false}, {"x\u00a0", false},
	} {
		f.Set(1, "class", c.value)
		if e.HasClass("x") != c.has {
			t.Errorf("of the classes %q x is one: %t", c.value, !c.has)
		}
		if e.HasClass("") {
			t.Errorf("of the classes %q nothing is one", c.value)
		}
	}
	f.Set(1, "class", "x\ty")
	if !e.HasClass("x\ty") {
		t.Error("a class may have a tab in it")
	}
	f.Unset(1, "class")
	f.Set(1, "klass", "x")
	if e.HasClass("x") {
		t.Error("another attribute gives classes")
	}
}
