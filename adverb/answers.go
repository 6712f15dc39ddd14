package adverb

import (
	"slices"

	"reredos/api"
	"reredos/prim"
	"reredos/val"
)

// answer is what is told of a verb and the arrays that are handed in with it, if they may be: an array that shares nothing, or an error alone.
func answer(f prim.Verb, tell func() (api.Val, api.Errno), in ...api.Val) (told api.Val, err api.Errno) {
	if f == nil || slices.ContainsFunc(in, mayNot) {
		return api.Val{}, api.ErrArg
	}
	defer func() {
		if recover() != nil { // a verb may be anybody's, and no call panics, whatever it is given
			told, err = api.Val{}, api.ErrArg
		}
	}()
	told, err = tell()
	if err != api.OK {
		return api.Val{}, err
	}
	return api.Val{Shape: slices.Clone(told.Shape), Elems: slices.Clone(told.Elems)}, api.OK
}

func mayNot(v api.Val) bool {
	return !val.May(v)
}

// joined is what is told of each item of an array that has an axis, in turn, as an array; of one without an item it is that one.
func joined(v api.Val, tell func(i int, item api.Val) (api.Val, api.Errno)) (api.Val, api.Errno) {
	many := val.Many(v)
	if many == 0 {
		return v, api.OK
	}
	var l []api.Val
	for i, item := range items(v) {
		told, err := tell(i, item)
		if err != api.OK {
			return api.Val{}, err
		}
		// More than MaxCells can be joined only without an element, and may be too many to be kept: of these just one that is unlike matters.
		if len(l) <= api.MaxCells || !slices.Equal(told.Shape, l[0].Shape) {
			l = append(l[:min(len(l), api.MaxCells)], told)
		}
	}
	all, err := val.Join(l)
	if err != api.OK {
		return api.Val{}, err
	}
	all.Shape[0] = many
	return all, api.OK
}

// ofNothing is what a verb makes of an array without an item.
func ofNothing(f prim.Verb, v api.Val) (api.Val, api.Errno) {
	if len(v.Shape) > 1 {
		return api.Val{}, api.ErrDom
	}
	unit, ok := f.Unit()
	if !ok {
		return api.Val{}, api.ErrDom
	}
	return unit, api.OK
}

// fold tells of one item behind the other what a verb has come by.
func fold(f prim.Verb) func(i int, item api.Val) (api.Val, api.Errno) {
	var now api.Val
	return func(i int, item api.Val) (api.Val, api.Errno) {
		if i == 0 {
			now = item
			return now, api.OK
		}
		next, err := f.Two(now, item)
		now = next
		return now, err
	}
}

// whole is what a verb does with an array, whole, to the left, and each item of another one.
func whole(f prim.Verb, v, w api.Val) (api.Val, api.Errno) {
	if len(w.Shape) == 0 {
		return f.Two(v, w)
	}
	return joined(w, func(_ int, item api.Val) (api.Val, api.Errno) {
		return f.Two(v, item)
	})
}
