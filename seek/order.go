package seek

import (
	"container/heap"

	"reredos/api"
	"reredos/num"
	"reredos/val"
)

// Which element's place is the first one.
const (
	leastFirst    = 1
	greatestFirst = -1
)

// order is a heap of elements' places.
type order struct {
	elems  []string
	places []int
	side   int // leastFirst or greatestFirst
}

// Len is how many places there are.
func (o *order) Len() int {
	return len(o.places)
}

// Less tells whether one place is ahead of another.
func (o *order) Less(i, j int) bool {
	a, b := o.places[i], o.places[j]
	c := o.side * num.Cmp(o.elems[a], o.elems[b])
	return c < 0 || c == 0 && a < b // a heap alone leaves alike ones in any turn
}

// Swap puts one place where another is.
func (o *order) Swap(i, j int) {
	o.places[i], o.places[j] = o.places[j], o.places[i]
}

// Push puts a place behind all.
func (o *order) Push(place any) {
	o.places = append(o.places, place.(int))
}

// Pop takes the last place away.
func (o *order) Pop() any {
	last := len(o.places) - 1
	place := o.places[last]
	o.places = o.places[:last]
	return place
}

// ordered are the places of a vector's elements in an order.
func ordered(v api.Val, side int) (api.Val, api.Errno) {
	if err := noVector(v); err != api.OK {
		return api.Val{}, err
	}
	o := &order{elems: v.Elems, side: side}
	for i := range v.Elems {
		heap.Push(o, i)
	}
	var places []int
	for o.Len() > 0 {
		places = append(places, heap.Pop(o).(int))
	}
	return val.Ints(places), api.OK
}
