// Package tree: nodes, what they are, and how they stand under one another.
package tree

import "grove/api"

// Kind is what a node is beyond its place. Its methods say what a kind as
// such allows; what hangs on its neighbours too, a type switch tells.
type Kind interface {
	MayHaveKids() bool
	MayHaveParent() bool
}

// Root is the top of a tree.
type Root struct{}

// Text is something said.
type Text struct {
	Says string
}

// Note is something said aside.
type Note struct {
	Says string
}

func (Root) MayHaveKids() bool { return true }
func (Text) MayHaveKids() bool { return false }
func (Note) MayHaveKids() bool { return false }

func (Root) MayHaveParent() bool { return false }
func (Text) MayHaveParent() bool { return true }
func (Note) MayHaveParent() bool { return true }

// NewKind is the kind of this number with its text, or what forbids it.
func NewKind(kind int, text string) (Kind, api.Errno) {
	switch kind {
	case api.Element:
		if !IsName(text) {
			return nil, api.ErrName
		}
		return newElement(text), api.OK
	case api.Root, api.Text, api.Note:
		// A root's text counts for nothing, but the limit is for it too.
		if len(text) > api.MaxData {
			return nil, api.ErrLong
		}
		return newSaying(kind, text), api.OK
	}
	return nil, api.ErrKind
}

func newSaying(kind int, text string) Kind {
	switch kind {
	case api.Text:
		return Text{Says: text}
	case api.Note:
		return Note{Says: text}
	}
	return Root{}
}

// Number tells by which number the api has this kind.
func Number(k Kind) int {
	switch k.(type) {
	case Root:
		return api.Root
	case *Element:
		return api.Element
	case Text:
		return api.Text
	}
	return api.Note
}

// IsName tells whether s may be a tag or the name of an attribute.
func IsName(s string) bool {
	if len(s) < 1 || len(s) > api.MaxName {
		return false
	}
	for i := range len(s) {
		if s[i] < 'a' || s[i] > 'z' {
			return false
		}
	}
	return true
}
