package adverb

import (
	"iter"
	"slices"

	"reredos/api"
	"reredos/val"
)

// items are those of an array that has an axis, in turn, each with its place.
func items(v api.Val) iter.Seq2[int, api.Val] {
	return func(yield func(i int, item api.Val) bool) {
		for i := range val.Many(v) {
			if !yield(i, itemAt(v, i)) {
				return
			}
		}
	}
}

// itemAt is an item of an array that has it. (val.Item asks each time whether all of the array may be.)
func itemAt(v api.Val, i int) api.Val {
	each := len(v.Elems) / val.Many(v)
	return api.Val{Shape: slices.Clone(v.Shape[1:]), Elems: slices.Clone(v.Elems[i*each : (i+1)*each])}
}
