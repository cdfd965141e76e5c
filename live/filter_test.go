package live

import (
	"math"
	"slices"
	"testing"

	"grove/api"
	"grove/tree"
)

func newFilter(t *testing.T, show int, rules ...api.Rule) Filter {
	t.Helper()
	f, err := NewFilter(show, rules)
	if err != api.OK {
		t.Fatalf("NewFilter(%d, %v): %d", show, rules, err)
	}
	return f
}

func TestNewFilterErrors(t *testing.T) {
	ok, wrong := api.Rule{Name: "abcdefgh", Verdict: api.Reject}, api.Rule{Name: "abcdefghi", Verdict: api.Reject}
	for _, c := range []struct {
		show  int
		rules []api.Rule
		err   api.Errno
	}{
		{-1, nil, api.ErrKind}, {31, slices.Repeat([]api.Rule{wrong}, 11), api.ErrKind}, {math.MinInt, nil, api.ErrKind},
		{30, slices.Repeat([]api.Rule{wrong}, 11), api.ErrLong}, {0, slices.Repeat([]api.Rule{ok}, 11), api.ErrLong},
		{30, []api.Rule{wrong}, api.ErrRule}, {30, []api.Rule{ok, ok, wrong}, api.ErrRule},
		{30, []api.Rule{{Name: "a", Verdict: 0}}, api.ErrRule}, {30, []api.Rule{{Name: "a", Verdict: 4}}, api.ErrRule}, {30, []api.Rule{{Verdict: 1}}, api.ErrRule},
		{0, nil, api.OK}, {30, slices.Repeat([]api.Rule{ok}, 10), api.OK},
	} {
		if _, err := NewFilter(c.show, c.rules); err != c.err {
			t.Errorf("NewFilter(%d, %v): %d, want %d", c.show, c.rules, err, c.err)
		}
	}
}

func TestFilterSaysSkipOfKindsThatAreNotShown(t *testing.T) {
	for kind := api.Root; kind <= api.Note; kind++ {
		k, _ := tree.NewKind(kind, "a")
		for show := 0; show <= api.MaxShow; show++ {
			f := newFilter(t, show)
			want := api.Skip
			if show>>kind%2 == 1 {
				want = api.Accept
			}
			if v := f.Says(k); v != want {
				t.Errorf("the filter %d says %d of the kind %d", show, v, kind)
			}
		}
	}
}

func TestFilterSaysWhatTheFirstRuleOfTheTagSays(t *testing.T) {
	rules := []api.Rule{{Name: "a", Verdict: api.Reject}, {Name: "b", Verdict: api.Skip}, {Name: "a", Verdict: api.Accept}, {Name: "c", Verdict: api.Accept}, {Name: "c", Verdict: api.Reject}}
	shown, hidden := newFilter(t, api.MaxShow, rules...), newFilter(t, api.MaxShow-1<<api.Element, rules...)
	for tag, want := range map[string]int{"a": api.Reject, "b": api.Skip, "c": api.Accept, "d": api.Accept, "aa": api.Accept} {
		k, _ := tree.NewKind(api.Element, tag)
		if v := shown.Says(k); v != want {
			t.Errorf("the filter says %d of %s, want %d", v, tag, want)
		}
		if v := hidden.Says(k); v != api.Skip {
			t.Errorf("the filter says %d of %s, which is not shown", v, tag)
		}
	}
	// A text that says a tag is no element.
	if v := shown.Says(tree.Text{Says: "a"}); v != api.Accept {
		t.Errorf("the filter says %d of a text", v)
	}
}

func TestFilterKeepsItsOwnRules(t *testing.T) {
	rules := []api.Rule{{Name: "a", Verdict: api.Reject}}
	f := newFilter(t, api.MaxShow, rules...)
	rules[0].Verdict = api.Accept
	k, _ := tree.NewKind(api.Element, "a")
	if v := f.Says(k); v != api.Reject {
		t.Errorf("the filter says %d by a rule that was changed later", v)
	}
}
