package text

import (
	"strings"

	"reredos/api"
	"reredos/lex"
	"reredos/val"
)

// read is the array that a text tells, part by part; the parts need not fit together.
func read(s string) (api.Val, bool) {
	if n, ok := lex.Number(s); ok {
		return val.Scalar(n), true
	}
	ahead, behind, hasAxes := strings.Cut(s, behindAxes)
	if !hasAxes {
		l, ok := elements(s)
		return val.Vector(l), ok
	}
	shape, okAxes := axes(ahead)
	elems, okElems := elements(behind)
	return api.Val{Shape: shape, Elems: elems}, okAxes && okElems
}

// axes are those of which a text is the row: two at least, as fewer aren't told.
func axes(s string) ([]int, bool) {
	l, ok := numbers(s, api.MaxRank)
	if !ok || len(l) < 2 {
		return nil, false
	}
	shape, err := val.All(val.Vector(l))
	return shape, err == api.OK
}

// elements are those of the vector of which a text is told.
func elements(s string) ([]string, bool) {
	if s == none {
		return nil, true
	}
	s, isAlone := strings.CutPrefix(s, alone)
	l, ok := numbers(s, api.MaxCells)
	return l, ok && isAlone == (len(l) == 1)
}

// numbers are those of which a text is the row: most at most, so that a long text that is none is soon left.
func numbers(s string, most int) ([]string, bool) {
	var l []string
	for part := range strings.SplitSeq(s, between) {
		n, ok := lex.Number(part)
		if !ok || len(l) == most {
			return nil, false
		}
		l = append(l, n)
	}
	return l, true
}
