package live

import (
	"grove/api"
	"grove/tree"
)

// Walker steps about from where it is, however the tree was changed under it.
// Its methods take the forest that its root is in, always the same one.
type Walker struct {
	root   int
	filter Filter
	// here may be anywhere in the forest, outside of root too: so no way up
	// may count on meeting root.
	here int
}

// NewWalker is a walker at its root.
func NewWalker(root int, filter Filter) Walker {
	return Walker{root: root, filter: filter, here: root}
}

// Here tells where the walker is.
func (w *Walker) Here() int { return w.here }

// Go sets the walker to a node.
func (w *Walker) Go(n int) { w.here = n }

// Move goes to what the move of this number finds, and tells it; 0 if that is
// nothing, and the walker stays.
func (w *Walker) Move(f *tree.Forest, how int) (int, api.Errno) {
	find := finder(how)
	if find == nil {
		return 0, api.ErrKind
	}
	n := find(w, f)
	if n != 0 {
		w.here = n
	}
	return n, api.OK
}

// finder tells how the move of this number finds a node; nil if there is no
// such move.
func finder(how int) func(*Walker, *tree.Forest) int {
	// The number 0 is no move's, and its entry is nil.
	finders := [...]func(*Walker, *tree.Forest) int{
		api.ToParent:   (*Walker).toParent,
		api.ToFirst:    (*Walker).toFirst,
		api.ToLast:     (*Walker).toLast,
		api.ToPrevious: (*Walker).toPrevious,
		api.ToNext:     (*Walker).toNext,
		api.Back:       (*Walker).back,
		api.On:         (*Walker).on,
	}
	if how < 0 || how >= len(finders) {
		return nil
	}
	return finders[how]
}

func (w *Walker) toParent(f *tree.Forest) int {
	for n := w.here; n != w.root; {
		n = f.Parent(n)
		if n == 0 || w.accepts(f, n) {
			return n
		}
	}
	return 0
}

func (w *Walker) toFirst(f *tree.Forest) int { return w.toKid(f, false) }

func (w *Walker) toLast(f *tree.Forest) int { return w.toKid(f, true) }

// toKid goes through the kids; those of one that is skipped stand for it.
func (w *Walker) toKid(f *tree.Forest, back bool) int {
	for n := outer(f, w.here, back); n != 0; {
		says := w.says(f, n)
		if says == api.Accept {
			return n
		}
		next := instead(f, n, says, back)
		if next == 0 {
			next = w.beyond(f, n, back)
		}
		n = next
	}
	return 0
}

// beyond tells what stands beside the parent of n, or else beside that one's,
// and so on; 0 if root or where the walker is comes first. One of them does
// come, as n stands under where the walker is.
func (w *Walker) beyond(f *tree.Forest, n int, back bool) int {
	for n = f.Parent(n); n != w.root && n != w.here; n = f.Parent(n) {
		if s := sibling(f, n, back); s != 0 {
			return s
		}
	}
	return 0
}

func (w *Walker) toPrevious(f *tree.Forest) int { return w.toSibling(f, true) }

func (w *Walker) toNext(f *tree.Forest) int { return w.toSibling(f, false) }

// toSibling goes through what stands beside the walker. Kids of one that is not
// accepted stand for it, so what is beside such a parent is beside its kids too.
func (w *Walker) toSibling(f *tree.Forest, back bool) int {
	for n := w.here; n != 0 && n != w.root; {
		for s := sibling(f, n, back); s != 0; {
			says := w.says(f, s)
			if says == api.Accept {
				return s
			}
			n = s
			s = instead(f, n, says, back)
		}
		n = f.Parent(n)
		if n != 0 && w.accepts(f, n) {
			return 0
		}
	}
	return 0
}

// instead tells what is looked at in place of n, of which the filter says this:
// its kids, if it is skipped and has some, or else its sibling; 0 if it has
// none.
func instead(f *tree.Forest, n, says int, back bool) int {
	if k := outer(f, n, back); k != 0 && says == api.Skip {
		return k
	}
	return sibling(f, n, back)
}

func (w *Walker) back(f *tree.Forest) int {
	for n := w.here; n != w.root; {
		for s := f.Ahead(n); s != 0; s = f.Ahead(n) {
			n = w.inmost(f, s)
			if w.accepts(f, n) {
				return n
			}
		}
		// From outside, root may have been come to as a sibling: what it
		// stands under is not gone to.
		if n == w.root {
			return 0
		}
		n = f.Parent(n)
		if n == 0 || w.accepts(f, n) {
			return n
		}
	}
	return 0
}

// inmost goes from n to its last kid, and to that one's, until one has none or
// is rejected.
func (w *Walker) inmost(f *tree.Forest, n int) int {
	for f.Last(n) != 0 && w.says(f, n) != api.Reject {
		n = f.Last(n)
	}
	return n
}

func (w *Walker) on(f *tree.Forest) int {
	for n := f.Next(w.here, w.root); n != 0; {
		switch w.says(f, n) {
		case api.Accept:
			return n
		case api.Reject:
			n = f.Past(n, w.root)
		default:
			n = f.Next(n, w.root)
		}
	}
	return 0
}

func (w *Walker) says(f *tree.Forest, n int) int { return w.filter.Says(f.Kind(n)) }

func (w *Walker) accepts(f *tree.Forest, n int) bool { return w.says(f, n) == api.Accept }

// outer tells the first kid of n, on the way back the last one; 0 if it has
// none.
func outer(f *tree.Forest, n int, back bool) int {
	if back {
		return f.Last(n)
	}
	return f.First(n)
}

// sibling tells the kid behind n, on the way back the one ahead of it; 0 if
// there is none.
func sibling(f *tree.Forest, n int, back bool) int {
	if back {
		return f.Ahead(n)
	}
	return f.Behind(n)
}
