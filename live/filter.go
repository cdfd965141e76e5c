package live

import (
	"slices"

	"grove/api"
	"grove/tree"
)

// Filter says of nodes whether they are accepted, rejected or skipped.
type Filter struct {
	show  int
	rules []api.Rule
}

// NewFilter is a filter of this show and these rules, or what forbids it.
func NewFilter(show int, rules []api.Rule) (Filter, api.Errno) {
	if show < 0 || show > api.MaxShow {
		return Filter{}, api.ErrKind
	}
	if len(rules) > api.MaxRules {
		return Filter{}, api.ErrLong
	}
	if slices.ContainsFunc(rules, mayNotBe) {
		return Filter{}, api.ErrRule
	}
	return Filter{show: show, rules: slices.Clone(rules)}, api.OK
}

func mayNotBe(r api.Rule) bool {
	return !tree.IsName(r.Name) || r.Verdict < api.Accept || r.Verdict > api.Skip
}

// Says is the verdict on a node of this kind.
func (f *Filter) Says(k tree.Kind) int {
	if f.show&(1<<tree.Number(k)) == 0 {
		return api.Skip
	}
	switch e := k.(type) {
	case *tree.Element:
		return f.saysOfTag(e.Tag)
	}
	return api.Accept
}

// saysOfTag goes by the first rule of a tag: later ones count for nothing.
func (f *Filter) saysOfTag(tag string) int {
	for _, r := range f.rules {
		if r.Name == tag {
			return r.Verdict
		}
	}
	return api.Accept
}
