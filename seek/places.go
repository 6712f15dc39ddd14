package seek

import (
	"reredos/api"
	"reredos/val"
)

// noVector is the error of an array that should be a vector.
func noVector(v api.Val) api.Errno {
	switch {
	case !val.May(v):
		return api.ErrArg
	case len(v.Shape) != 1:
		return api.ErrRank
	}
	return api.OK
}

// firsts are the places where elements are first.
func firsts(elems []string) map[string]int {
	first := map[string]int{}
	for i, s := range elems {
		if _, ok := first[s]; !ok {
			first[s] = i
		}
	}
	return first
}

// placesOf are an array's elements, each of which is to be one of so many places.
func placesOf(v api.Val, many int) ([]int, api.Errno) {
	places, err := val.All(v)
	if err != api.OK {
		return nil, err
	}
	for _, i := range places {
		if i < 0 || i >= many {
			return nil, api.ErrIndex
		}
	}
	return places, api.OK
}
