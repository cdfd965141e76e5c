package api

import (
	"slices"
	"testing"
)

// The numbers are the document's: what callers have kept of them must hold.
func TestNumbers(t *testing.T) {
	for want, err := range []Errno{OK, ErrKind, ErrName, ErrLong, ErrFull, ErrNode, ErrPlace, ErrBefore, ErrLoose, ErrNone, ErrThing, ErrRule} {
		if int(err) != want {
			t.Errorf("the error %d has the number %d", want, err)
		}
	}
	for _, row := range [][]int{
		{Root, Element, Text, Note},
		{ByTag, ByClass, Elements, Nodes},
		{Accept, Reject, Skip},
		{ToParent, ToFirst, ToLast, ToPrevious, ToNext, Back, On},
	} {
		for i, n := range row {
			if n != i+1 {
				t.Errorf("the numbers %v don't count from 1 on", row)
			}
		}
	}
	limits := []int{MaxNodes, MaxThings, MaxName, MaxData, MaxRules, MaxShow}
	if !slices.Equal(limits, []int{300, 50, 8, 40, 10, 30}) {
		t.Errorf("the limits are %v", limits)
	}
}
