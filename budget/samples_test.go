package budget_test

import (
	"math"
	"math/big"

	"reredos/budget"
)

// top is the most that is bounded, 2^40, written out.
const top = 1099511627776

// of is a budget, written short.
func of(fuel, cells int) budget.Budget { return budget.Budget{Fuel: fuel, Cells: cells} }

// edges are numbers at and around all that the document names, those whose sums and products wrap round an int's ends, and some between.
func edges() []int {
	return []int{math.MinInt, math.MinInt + 1, math.MinInt / 2, -1<<62 - 1, -1 << 41, -top - 1, -top, -top + 1, -1 << 32, -5, -2, -1, 0, 1, 2, 3, 5, 1000, 1<<20 - 1, 1 << 20, 1<<20 + 1, 1<<24 - 1, 1 << 24, 1 << 31, 1 << 32, 1<<32 + 1, 1 << 39, 1<<39 + 1, top - 2, top - 1, top, top + 1, top + 2, 2 * top, 3037000500, 1 << 62, 1<<62 + 1, math.MaxInt - top, math.MaxInt - 1, math.MaxInt}
}

// pairs are all budgets of two of some numbers.
func pairs(l []int) []budget.Budget {
	var all []budget.Budget
	for _, fuel := range l {
		for _, cells := range l {
			all = append(all, of(fuel, cells))
		}
	}
	return all
}

// few are numbers of each kind, so that pairs of pairs of them are soon gone through.
func few() []int {
	return []int{math.MinInt, -top, -1, 0, 1, 2, 5, top - 1, top, top + 1, math.MaxInt - 1, math.MaxInt}
}

// random is a row of numbers that is the same each time.
type random uint64

func (r *random) below(n int) int {
	*r = *r*6364136223846793005 + 1442695040888963407
	return int(uint64(*r)>>33) % n
}

// number has any size, on either side of 0; mostly it is above it.
func (r *random) number() int {
	x := (r.below(1<<30)<<33 | r.below(1<<30)<<3 | r.below(8)) & math.MaxInt >> r.below(63)
	if r.below(5) == 0 {
		x = -x
	}
	return x
}

// small is a number that is bounded, and small enough that some thousands together are.
func (r *random) small() int { return r.below(1 << (1 + r.below(26))) }

func (r *random) budget() budget.Budget { return of(r.number(), r.number()) }

// many are n budgets of any numbers.
func (r *random) many(n int) []budget.Budget {
	l := make([]budget.Budget, n)
	for i := range l {
		l[i] = r.budget()
	}
	return l
}

// whole is a number that can't wrap.
func whole(x int) *big.Int { return big.NewInt(int64(x)) }

// bounded says the chapter's words in whole numbers.
func bounded(x *big.Int) *big.Int {
	if x.Sign() < 0 {
		return whole(0)
	}
	if x.Cmp(whole(top)) > 0 {
		return whole(top)
	}
	return x
}

// sumOf are numbers together, each bounded first, and what comes of it after each.
func sumOf(l []int) int {
	total := whole(0)
	for _, x := range l {
		total = bounded(total.Add(total, bounded(whole(x))))
	}
	return int(total.Int64())
}

// timesOf is a number n times.
func timesOf(x, n int) int {
	product := new(big.Int).Mul(bounded(whole(x)), bounded(whole(n)))
	return int(bounded(product).Int64())
}

// parts are all fuel, and all cells, of some budgets.
func parts(l []budget.Budget) (fuel, cells []int) {
	for _, b := range l {
		fuel = append(fuel, b.Fuel)
		cells = append(cells, b.Cells)
	}
	return fuel, cells
}

// sum is what Sum should tell.
func sum(l []budget.Budget) budget.Budget {
	fuel, cells := parts(l)
	return of(sumOf(fuel), sumOf(cells))
}

// within tells in whole numbers whether a part may be paid of what there is.
func within(have, price int) bool {
	return whole(price).Sign() >= 0 && whole(price).Cmp(whole(have)) <= 0
}
