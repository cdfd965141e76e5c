package tree

import (
	"slices"
	"strings"
)

// classes is the name of the attribute that an element's classes are cut from.
const classes = "class"

// Element has a name, its tag; and attributes.
type Element struct {
	Tag        string
	attributes map[string]attribute
}

type attribute struct {
	value string
}

func newElement(tag string) *Element {
	return &Element{Tag: tag, attributes: make(map[string]attribute)}
}

func (*Element) MayHaveKids() bool   { return true }
func (*Element) MayHaveParent() bool { return true }

// Has tells whether there is an attribute of this name.
func (e *Element) Has(name string) bool {
	_, ok := e.attributes[name]
	return ok
}

// Is tells whether there is an attribute of this name and value.
func (e *Element) Is(name, value string) bool {
	a, ok := e.attributes[name]
	return ok && a.value == value
}

// HasClass tells whether this is one of the element's classes.
func (e *Element) HasClass(class string) bool {
	// Between two blanks there may be nothing, and that is no class.
	return class != "" && slices.Contains(strings.Split(e.attributes[classes].value, " "), class)
}
