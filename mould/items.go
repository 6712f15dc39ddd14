package mould

import (
	"slices"

	"reredos/api"
	"reredos/val"
)

// cut is a list from a place to ahead of another one, without room behind it: what is put behind a part is never written over the list's next one.
func cut[E any](l []E, from, to int) []E {
	return l[from:to:to]
}

// itemSize is how many elements each item of an array has, if it has an item.
func itemSize(v api.Val) int {
	if len(v.Elems) == 0 {
		return 0 // there may be no item, too
	}
	return len(v.Elems) / val.Many(v)
}

// part are an array's items from one to ahead of another, the array having an axis.
func part(v api.Val, from, to int) api.Val {
	each := itemSize(v)
	return api.Val{
		Shape: append([]int{to - from}, cut(v.Shape, 1, len(v.Shape))...),
		Elems: slices.Clone(cut(v.Elems, from*each, to*each)),
	}
}

// counts are the number that an array is, and how many items another one has to take or drop so many of.
func counts(v, w api.Val) (n, many int, err api.Errno) {
	if !val.May(v) || !val.May(w) {
		return 0, 0, api.ErrArg
	}
	n, err = val.Int(v)
	if err != api.OK {
		return 0, 0, err
	}
	if len(w.Shape) == 0 {
		return 0, 0, api.ErrRank
	}
	return n, val.Many(w), api.OK
}
