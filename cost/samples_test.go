package cost_test

import (
	"math"
	"math/big"
	"strconv"

	"reredos/api"
	"reredos/budget"
	"reredos/cost"
)

// top is the most of a part, 2^40, and cells the most elements of an array, written out.
const (
	top   = 1099511627776
	cells = 4096
)

// of is a budget, written short.
func of(fuel, cells int) budget.Budget { return budget.Budget{Fuel: fuel, Cells: cells} }

// edges are numbers at and around all that the document names, those that wrap round an int's ends with others, and some between; rising.
func edges() []int {
	return []int{math.MinInt, math.MinInt + 1, math.MinInt / 2, -top - 1, -top, -cells - 1, -cells, -2, -1, 0, 1, 2, 3, 7, 100, cells - 1, cells, cells + 1, 2 * cells, 1 << 20, 1<<28 - 1, 1 << 28, 1 << 32, top / 3, top/2 - 1, top / 2, top/2 + 1, top - 2, top - 1, top, top + 1, top + 2, 2 * top, 1 << 52, 1<<52 + 1, 1 << 62, math.MaxInt - top, math.MaxInt - 1, math.MaxInt}
}

// few are numbers of each kind, rising.
func few() []int {
	return []int{math.MinInt, -1, 0, 1, 2, cells - 1, cells, cells + 1, top - 1, top, top + 1, math.MaxInt - 1, math.MaxInt}
}

// random is a row of numbers that is the same each time.
type random uint64

func (r *random) below(n int) int {
	*r = *r*6364136223846793005 + 1442695040888963407
	return int(uint64(*r)>>33) % n
}

// number has any size, on either side of 0; mostly it is above it.
func (r *random) number() int {
	x := (r.below(1<<30)<<33 | r.below(1<<30)<<3 | r.below(8)) & math.MaxInt >> r.below(63)
	if r.below(5) == 0 {
		x = -x
	}
	return x
}

// numbers are n of any size.
func (r *random) numbers(n int) []int {
	l := make([]int, n)
	for i := range l {
		l[i] = r.number()
	}
	return l
}

// array has n elements, on one axis.
func array(n int) api.Val {
	l := make([]string, n)
	for i := range l {
		l[i] = strconv.Itoa(i)
	}
	return api.Val{Shape: []int{n}, Elems: l}
}

// whole is a number that can't wrap, and is 0, if x is below it.
func whole(x int) *big.Int { return big.NewInt(int64(max(x, 0))) }

// part is the part of a budget that a number is: 2^40 at most.
func part(x *big.Int) int {
	if x.Cmp(whole(top)) > 0 {
		return top
	}
	return int(x.Int64())
}

// greater is the greater one of two.
func greater(x, y *big.Int) *big.Int {
	if x.Cmp(y) < 0 {
		return y
	}
	return x
}

// sizeSaid says the chapter's words of Size in whole numbers.
func sizeSaid(out int, in []int) budget.Budget {
	most := whole(out)
	for _, x := range in {
		most = greater(most, whole(x))
	}
	return of(part(new(big.Int).Add(most, whole(1))), part(whole(out)))
}

// loop is what Loop is asked.
type loop struct {
	ops, vectors, n int
	folds           bool
}

func (l loop) cost() budget.Budget { return cost.Loop(l.ops, l.vectors, l.n, l.folds) }

// total is what is spent, in whole numbers, and nothing is bounded till the end.
type total struct{ fuel, cells *big.Int }

// spend adds a price that is paid so often.
func (t total) spend(fuel, cells int, often *big.Int) {
	t.fuel.Add(t.fuel, new(big.Int).Mul(whole(fuel), often))
	t.cells.Add(t.cells, new(big.Int).Mul(whole(cells), often))
}

// said says the chapter's words of Loop in whole numbers.
func (l loop) said() budget.Budget {
	ops, vectors, n := whole(l.ops), whole(l.vectors), min(max(l.n, 0), cells)
	scalars := greater(new(big.Int).Sub(ops, vectors), whole(0))
	t := total{new(big.Int), new(big.Int)}
	t.spend(1, 0, ops)
	t.spend(2, 1, scalars)
	t.spend(1+n, n, new(big.Int).Sub(ops, scalars)) // of vectors those that there are among ops
	if l.folds {
		t.spend(2, 1, whole(n-1))
		t.spend(1+max(1, n), 1, whole(1))
	}
	return of(part(t.fuel), part(t.cells))
}

// named is the sum that the chapter names, by budget's own calls and Size.
func (l loop) named() budget.Budget {
	var prices []budget.Budget
	ops, vectors, n := max(l.ops, 0), max(l.vectors, 0), max(l.n, 0)
	if n > cells {
		n = cells
	}
	prices = append(prices, budget.Times(cost.Node(), ops))
	if ops > vectors {
		prices = append(prices, budget.Times(cost.Size(1, 1), ops-vectors))
	}
	prices = append(prices, budget.Times(cost.Size(n, n), min(vectors, ops)))
	if l.folds && n > 0 {
		prices = append(prices, budget.Times(cost.Size(1, 1, 1), n-1))
	}
	if l.folds {
		prices = append(prices, cost.Size(1, n))
	}
	return budget.Sum(prices...)
}

// loops are all loops of three of some numbers, with a fold and without one.
func loops(ops, vectors, n []int) []loop {
	var all []loop
	for _, o := range ops {
		for _, v := range vectors {
			for _, k := range n {
				all = append(all, loop{o, v, k, false}, loop{o, v, k, true})
			}
		}
	}
	return all
}

// someLoops are of all edges, of all small numbers, and of any.
func someLoops() []loop {
	small := []int{0, 1, 2, 3, 4, 5, 6, 7, 8, 9}
	all := append(loops(edges(), edges(), edges()), loops(small, small, small)...)
	r := random(3)
	for range 20000 {
		l := loop{r.number(), r.number(), r.number(), r.below(2) == 0}
		if r.below(2) == 0 { // an n that isn't bounded
			l.n = r.below(cells + 2)
		}
		all = append(all, l)
	}
	return all
}
