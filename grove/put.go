package grove

import (
	"grove/api"
	"grove/tree"
)

// mayPut asks in the order in which the document names the errors: ErrPlace
// stands there twice, with ErrBefore between.
func (g *Grove) mayPut(parent, child, before int) api.Errno {
	if !g.forest.Has(parent) || !g.forest.Has(child) || before != 0 && !g.forest.Has(before) {
		return api.ErrNode
	}
	if !g.forest.Kind(parent).MayHaveKids() || !g.forest.Kind(child).MayHaveParent() || g.forest.Within(parent, child) {
		return api.ErrPlace
	}
	if before != 0 && g.forest.Parent(before) != parent {
		return api.ErrBefore
	}
	if !g.fits(parent, child) {
		return api.ErrPlace
	}
	return api.OK
}

// fits tells whether parent takes this child among the kids that it has.
func (g *Grove) fits(parent, child int) bool {
	switch g.forest.Kind(parent).(type) {
	case tree.Root:
		return g.fitsRoot(parent, child)
	}
	return true
}

func (g *Grove) fitsRoot(root, child int) bool {
	switch g.forest.Kind(child).(type) {
	case tree.Text:
		return false
	case *tree.Element:
		return !g.hasOtherElement(root, child)
	}
	return true
}

func (g *Grove) hasOtherElement(parent, child int) bool {
	for k := g.forest.First(parent); k != 0; k = g.forest.Behind(k) {
		if k != child && g.forest.Element(k) != nil {
			return true
		}
	}
	return false
}
