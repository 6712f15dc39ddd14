package budget

// limit is how much a part, fuel or cells, may be.
type limit int

const most limit = 1 << 40

// bounded is the nearest number that a part may be.
func (m limit) bounded(x int) int {
	return min(max(x, 0), int(m))
}

// sum is two parts together; it can't wrap, as each is bounded first.
func (m limit) sum(x, y int) int {
	return m.bounded(m.bounded(x) + m.bounded(y))
}

// product is a part so often.
func (m limit) product(x, n int) int {
	x, n = m.bounded(x), m.bounded(n)
	if n > 0 && x > int(m)/n { // their product is above the limit, and might wrap
		return int(m)
	}
	return x * n
}

// both is what comes of two budgets, fuel of fuel as cells of cells.
func both(do func(x, y int) int, a, b Budget) Budget {
	return Budget{Fuel: do(a.Fuel, b.Fuel), Cells: do(a.Cells, b.Cells)}
}

// enough tells whether a part may be paid of what there is.
func enough(have, price int) bool {
	return price >= 0 && price <= have
}
