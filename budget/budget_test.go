package budget_test

import (
	"math"
	"slices"
	"sync"
	"testing"

	"reredos/api"
	"reredos/budget"
)

// The calls and the fields, with the exact signatures that the chapter lists.
var (
	_ func(fuel, cells int) budget.Budget                 = budget.New
	_ func(b, c budget.Budget) bool                       = budget.Budget.Can
	_ func(b, c budget.Budget) (budget.Budget, api.Errno) = budget.Budget.Pay
	_ func(l ...budget.Budget) budget.Budget              = budget.Sum
	_ func(c budget.Budget, n int) budget.Budget          = budget.Times
	_ struct{ Fuel, Cells int }                           = budget.Budget{}
)

func TestNew(t *testing.T) { // P6.1: bounded, written out; each of them beside each, so that none is taken for the other
	wants := map[int]int{
		math.MinInt: 0, -top - 1: 0, -top: 0, -2: 0, -1: 0,
		0: 0, 1: 1, 2: 2, 1000: 1000, 1 << 32: 1 << 32, 1 << 39: 1 << 39, top - 1: 1099511627775, top: 1099511627776,
		top + 1: 1099511627776, 2 * top: 1099511627776, 1 << 62: 1099511627776, math.MaxInt: 1099511627776,
	}
	for fuel, wantFuel := range wants {
		for cells, wantCells := range wants {
			if got := budget.New(fuel, cells); got.Fuel != wantFuel || got.Cells != wantCells {
				t.Errorf("New(%d, %d): %v", fuel, cells, got)
			}
		}
	}
}

func TestNewOfAll(t *testing.T) { // P6.1
	r := random(1)
	for _, b := range append(pairs(edges()), r.many(5000)...) {
		if got := budget.New(b.Fuel, b.Cells); got != sum([]budget.Budget{b}) {
			t.Errorf("New(%d, %d): %v", b.Fuel, b.Cells, got)
		}
	}
}

// payment is what is paid of what there is, and what comes of it.
type payment struct {
	b, c, left budget.Budget
	err        api.Errno
}

// payments are written out; those without an error can be paid.
func payments() []payment {
	const least, greatest = math.MinInt, math.MaxInt
	return []payment{
		{of(5, 5), of(3, 2), of(2, 3), api.OK}, {of(10, 3), of(10, 3), of(0, 0), api.OK}, {of(10, 3), of(0, 0), of(10, 3), api.OK}, {of(0, 0), of(0, 0), of(0, 0), api.OK}, {of(1, 0), of(1, 0), of(0, 0), api.OK}, {of(0, 1), of(0, 1), of(0, 0), api.OK}, {of(9, 4), of(2, 4), of(7, 0), api.OK}, {of(9, 4), of(9, 1), of(0, 3), api.OK}, {of(top, top), of(1, top), of(top-1, 0), api.OK}, {of(top, 1), of(top-1, 0), of(1, 1), api.OK},
		{of(5, 5), of(6, 2), of(0, 0), api.ErrLimit}, {of(5, 5), of(2, 6), of(0, 0), api.ErrLimit}, {of(5, 5), of(6, 6), of(0, 0), api.ErrLimit}, {of(0, 5), of(1, 1), of(0, 0), api.ErrLimit}, {of(5, 0), of(1, 1), of(0, 0), api.ErrLimit}, {of(0, 0), of(0, 1), of(0, 0), api.ErrLimit}, {of(0, 0), of(1, 0), of(0, 0), api.ErrLimit}, {of(top, top), of(top+1, 0), of(0, 0), api.ErrLimit}, {of(top, top), of(0, top+1), of(0, 0), api.ErrLimit}, {of(top, top), of(greatest, greatest), of(0, 0), api.ErrLimit}, {of(3, 9), of(9, 3), of(0, 0), api.ErrLimit},
		{of(5, 5), of(-1, 2), of(0, 0), api.ErrArg}, {of(5, 5), of(2, -1), of(0, 0), api.ErrArg}, {of(5, 5), of(-1, -1), of(0, 0), api.ErrArg}, {of(5, 5), of(least, 0), of(0, 0), api.ErrArg}, {of(5, 5), of(0, least), of(0, 0), api.ErrArg}, {of(0, 0), of(0, -1), of(0, 0), api.ErrArg}, {of(0, 0), of(-1, 0), of(0, 0), api.ErrArg},
		{of(5, 5), of(-1, 6), of(0, 0), api.ErrArg}, {of(5, 5), of(6, -1), of(0, 0), api.ErrArg}, {of(0, 0), of(greatest, least), of(0, 0), api.ErrArg}, {of(0, 0), of(least, greatest), of(0, 0), api.ErrArg}, {of(-5, -5), of(-5, -5), of(0, 0), api.ErrArg}, {of(-5, -5), of(-6, -6), of(0, 0), api.ErrArg}, // ErrArg is named first
		{of(-1, 5), of(0, 0), of(0, 0), api.ErrLimit}, {of(5, -1), of(0, 0), of(0, 0), api.ErrLimit}, {of(-1, -1), of(0, 0), of(0, 0), api.ErrLimit}, {of(least, least), of(0, 0), of(0, 0), api.ErrLimit}, {of(least, least), of(greatest, greatest), of(0, 0), api.ErrLimit}, {of(least, 5), of(1, 1), of(0, 0), api.ErrLimit}, {of(5, least), of(1, 1), of(0, 0), api.ErrLimit}, {of(-1, 5), of(0, -1), of(0, 0), api.ErrArg},
		{of(greatest, top+5), of(0, 0), of(greatest, top+5), api.OK}, {of(greatest, top+5), of(1, 2), of(greatest-1, top+3), api.OK}, {of(greatest, greatest), of(greatest, top+1), of(0, greatest-top-1), api.OK}, {of(top+1, 7), of(top+1, 7), of(0, 0), api.OK}, {of(top+1, 7), of(top+2, 7), of(0, 0), api.ErrLimit},
	}
}

func TestCan(t *testing.T) { // P6.1
	for _, c := range payments() {
		if got := c.b.Can(c.c); got != (c.err == api.OK) {
			t.Errorf("%v.Can(%v): %v", c.b, c.c, got)
		}
	}
}

func TestPay(t *testing.T) { // P6.1, R1
	for _, c := range payments() {
		if left, err := c.b.Pay(c.c); left != c.left || err != c.err {
			t.Errorf("%v.Pay(%v): %v, %d", c.b, c.c, left, err)
		}
	}
}

func TestExample(t *testing.T) { // the chapter's
	if left, err := budget.New(5, 5).Pay(of(3, 2)); left != of(2, 3) || err != api.OK {
		t.Errorf("of 5 and 5, 3 and 2 are paid: %v, %d", left, err)
	}
}

// paid holds Can and Pay against the chapter's words, in whole numbers.
func paid(t *testing.T, b, c budget.Budget) {
	t.Helper()
	can := within(b.Fuel, c.Fuel) && within(b.Cells, c.Cells)
	want, wantErr := budget.Budget{}, api.ErrLimit
	if c.Fuel < 0 || c.Cells < 0 {
		wantErr = api.ErrArg
	} else if can {
		want, wantErr = of(b.Fuel-c.Fuel, b.Cells-c.Cells), api.OK
	}
	if got := b.Can(c); got != can {
		t.Errorf("%v.Can(%v): %v", b, c, got)
	}
	if left, err := b.Pay(c); left != want || err != wantErr {
		t.Errorf("%v.Pay(%v): %v, %d", b, c, left, err)
	}
}

func TestPayOfAll(t *testing.T) { // P6.1, R5: also of budgets that New never makes
	all := pairs(few())
	for _, b := range all {
		for _, c := range all {
			paid(t, b, c)
		}
	}
	r := random(3)
	for range 20000 {
		b := r.budget()
		c := of(b.Fuel+r.below(3)-1, b.Cells+r.below(3)-1) // what is just there, and beside it
		paid(t, b, c)
		paid(t, b, r.budget())
	}
}

func TestNewIsPaidWhole(t *testing.T) { // P6.1: what New makes can be paid, and nothing is left
	for _, b := range pairs(edges()) {
		made := budget.New(b.Fuel, b.Cells)
		if left, err := made.Pay(made); left != (budget.Budget{}) || err != api.OK {
			t.Errorf("%v paid of itself: %v, %d", made, left, err)
		}
	}
}

func TestSum(t *testing.T) { // P6.2
	const least, greatest = math.MinInt, math.MaxInt
	for _, c := range []struct {
		l    []budget.Budget
		want budget.Budget
	}{
		{nil, of(0, 0)}, {[]budget.Budget{}, of(0, 0)},
		{[]budget.Budget{of(0, 0)}, of(0, 0)}, {[]budget.Budget{of(3, 4)}, of(3, 4)}, {[]budget.Budget{of(top, top-1)}, of(top, top-1)},
		{[]budget.Budget{of(3, 4), of(1, 2)}, of(4, 6)}, {[]budget.Budget{of(1, 0), of(0, 1), of(1, 0)}, of(2, 1)}, {[]budget.Budget{of(1, 10), of(2, 20), of(3, 30), of(4, 40)}, of(10, 100)}, {slices.Repeat([]budget.Budget{of(2, 3)}, 5000), of(10000, 15000)},
		// each is bounded first
		{[]budget.Budget{of(-5, 4)}, of(0, 4)}, {[]budget.Budget{of(4, -5)}, of(4, 0)}, {[]budget.Budget{of(top+1, 4)}, of(top, 4)}, {[]budget.Budget{of(4, greatest)}, of(4, top)}, {[]budget.Budget{of(least, greatest)}, of(0, top)},
		{[]budget.Budget{of(7, 7), of(-5, 4)}, of(7, 11)}, {[]budget.Budget{of(-5, 4), of(7, 7)}, of(7, 11)}, {[]budget.Budget{of(7, 7), of(4, -5)}, of(11, 7)}, {[]budget.Budget{of(7, 7), of(least, least)}, of(7, 7)}, {[]budget.Budget{of(least, least), of(least, least)}, of(0, 0)}, {[]budget.Budget{of(greatest, 7), of(-1, -1)}, of(top, 7)}, {[]budget.Budget{of(2*top, -top), of(-top, 2*top)}, of(top, top)}, {[]budget.Budget{of(7, greatest), of(-greatest, -greatest), of(1, 1)}, of(8, top)},
		// bounded only together
		{[]budget.Budget{of(top, 0), of(1, 0)}, of(top, 0)}, {[]budget.Budget{of(0, top-1), of(0, 1)}, of(0, top)}, {[]budget.Budget{of(0, top-1), of(0, 2)}, of(0, top)}, {[]budget.Budget{of(top-3, 1), of(1, top-3), of(1, 1)}, of(top-1, top-1)}, {[]budget.Budget{of(1<<39, 1), of(1<<39+1, 1), of(5, 5)}, of(top, 7)}, {slices.Repeat([]budget.Budget{of(1<<39, 1<<38)}, 3), of(top, 3<<38)},
		// nothing wraps
		{[]budget.Budget{of(greatest, greatest), of(greatest, greatest)}, of(top, top)}, {[]budget.Budget{of(greatest, 1), of(1, greatest)}, of(top, top)}, {[]budget.Budget{of(1, 1), of(greatest, greatest)}, of(top, top)}, {slices.Repeat([]budget.Budget{of(greatest, greatest)}, 9), of(top, top)}, {slices.Repeat([]budget.Budget{of(top, 1<<39)}, 1<<17), of(top, top)}, {slices.Repeat([]budget.Budget{of(least, 1)}, 1000), of(0, 1000)},
	} {
		kept := slices.Clone(c.l)
		if got := budget.Sum(c.l...); got != c.want {
			t.Errorf("Sum of %d, %.300v: %v", len(c.l), c.l, got)
		}
		if !slices.Equal(c.l, kept) { // R3
			t.Errorf("Sum made %.300v of %.300v", c.l, kept)
		}
	}
	if budget.Sum() != of(0, 0) || budget.Sum(of(1, 2), of(3, 4)) != of(4, 6) {
		t.Error("Sum, told one by one")
	}
}

func TestSumOfAll(t *testing.T) { // P6.2: of two of all kinds, and of rows of any, in whole numbers
	all := pairs(few())
	for _, b := range all {
		for _, c := range all {
			summed(t, b, c)
		}
	}
	for _, b := range pairs(edges()) {
		summed(t, b)
	}
	r := random(5)
	for range 5000 {
		summed(t, r.many(r.below(12))...)
	}
}

// summed holds Sum against the chapter's words, also the other way round, as nothing is taken away again.
func summed(t *testing.T, l ...budget.Budget) {
	t.Helper()
	want := sum(l)
	if got := budget.Sum(l...); got != want {
		t.Errorf("Sum(%v): %v", l, got)
	}
	back := slices.Clone(l)
	slices.Reverse(back)
	if got := budget.Sum(back...); got != want {
		t.Errorf("Sum(%v): %v", back, got)
	}
}

func TestTimes(t *testing.T) { // P6.2
	const least, greatest = math.MinInt, math.MaxInt
	for _, c := range []struct {
		c    budget.Budget
		n    int
		want budget.Budget
	}{
		{of(3, 4), 0, of(0, 0)}, {of(3, 4), 1, of(3, 4)}, {of(3, 4), 2, of(6, 8)}, {of(3, 4), 1000, of(3000, 4000)}, {of(0, 4), 7, of(0, 28)}, {of(4, 0), 7, of(28, 0)}, {of(0, 0), top, of(0, 0)}, {of(1, 2), top, of(top, top)}, {of(1, 0), top - 1, of(top-1, 0)},
		{of(3, 4), -1, of(0, 0)}, {of(3, 4), least, of(0, 0)}, {of(-3, -4), -1, of(0, 0)}, {of(least, least), least, of(0, 0)}, {of(greatest, greatest), -1, of(0, 0)}, {of(greatest, greatest), 0, of(0, 0)}, {of(least, greatest), 0, of(0, 0)},
		{of(-3, 4), 5, of(0, 20)}, {of(3, -4), 5, of(15, 0)}, {of(-1, least), 5, of(0, 0)}, {of(least, least), greatest, of(0, 0)}, {of(-1, -1), top, of(0, 0)},
		{of(top, top-1), 1, of(top, top-1)}, {of(top+1, greatest), 1, of(top, top)}, {of(top, top), 2, of(top, top)}, {of(1<<39, 1<<39-1), 2, of(top, top-2)}, {of(1<<39+1, 1<<38), 2, of(top, top/2)}, {of(1<<20, 1<<20-1), 1 << 20, of(top, top-1<<20)}, {of(1<<20+1, 1<<20), 1 << 20, of(top, top)}, {of(1<<20, 3), 1<<20 + 1, of(top, 3<<20+3)},
		// 3 times 366503875925 is one below 2^40, 5 times 219902325555 too
		{of(366503875925, 366503875926), 3, of(1099511627775, top)}, {of(3, 4), 366503875925, of(1099511627775, top)}, {of(219902325555, 219902325556), 5, of(1099511627775, top)}, {of(3, 3), 366503875926, of(top, top)},
		// their products wrap to less than 0, to 0, or to what is above 0 again
		{of(1<<32, 1<<31), 1 << 32, of(top, top)}, {of(top, 1<<24), top, of(top, top)}, {of(1<<23, 1<<25), top, of(top, top)}, {of(3037000500, 6074000999), 3037000500, of(top, top)}, {of(1<<32+1, 1<<33+1), 1 << 32, of(top, top)}, {of(greatest, greatest), greatest, of(top, top)}, {of(greatest, 1), greatest, of(top, top)}, {of(1, greatest), 2, of(2, top)}, {of(greatest, 0), greatest, of(top, 0)}, {of(top-1, top-1), top - 1, of(top, top)},
	} {
		if got := budget.Times(c.c, c.n); got != c.want {
			t.Errorf("Times(%v, %d): %v", c.c, c.n, got)
		}
	}
}

func TestTimesOfAll(t *testing.T) { // P6.2
	for _, c := range pairs(edges()) {
		for _, n := range edges() {
			timed(t, c, n)
		}
	}
	r := random(7)
	for range 20000 {
		n := r.number()
		timed(t, r.budget(), n)
		if n > 0 { // at the bound, and beside it
			timed(t, of(top/n+r.below(3)-1, top/n+r.below(3)-1), n)
		}
	}
}

// timed holds Times against the chapter's words.
func timed(t *testing.T, c budget.Budget, n int) {
	t.Helper()
	if got := budget.Times(c, n); got != of(timesOf(c.Fuel, n), timesOf(c.Cells, n)) {
		t.Errorf("Times(%v, %d): %v", c, n, got)
	}
}

func TestTimesIsSum(t *testing.T) { // P6.2: so often is as often together
	r := random(9)
	for _, c := range append(pairs(few()), r.many(300)...) {
		for n := range 20 {
			if got, want := budget.Times(c, n), budget.Sum(slices.Repeat([]budget.Budget{c}, n)...); got != want {
				t.Errorf("Times(%v, %d): %v, and together %v", c, n, got, want)
			}
		}
	}
}

// oneByOne is what is left when some are paid of a budget in turn, and whether all could be.
func oneByOne(b budget.Budget, l []budget.Budget) (budget.Budget, bool) {
	for _, c := range l {
		left, err := b.Pay(c)
		if err != api.OK {
			return left, false
		}
		b = left
	}
	return b, true
}

// together holds what is paid one by one against what is paid together.
func together(t *testing.T, b budget.Budget, l []budget.Budget) bool {
	t.Helper()
	left, err := b.Pay(budget.Sum(l...))
	each, ok := oneByOne(b, l)
	if left != each || ok != (err == api.OK) || ok != b.Can(budget.Sum(l...)) {
		t.Errorf("%v of %v: together %v, %d, and one by one %v, %v", l, b, left, err, each, ok)
	}
	return ok
}

func TestPaidTogether(t *testing.T) { // P6.3
	r := random(11)
	for range 20000 {
		l := make([]budget.Budget, 1+r.below(8))
		for i := range l {
			l[i] = of(r.small(), r.small())
		}
		all := sum(l)
		if !together(t, all, l) || !together(t, of(all.Fuel+r.small(), all.Cells+r.small()), l) {
			t.Errorf("%v can't be paid", l)
		}
		if together(t, of(all.Fuel-1, all.Cells+r.small()), l) || together(t, of(all.Fuel+r.small(), all.Cells-1), l) {
			t.Errorf("%v can be paid of less", l)
		}
		together(t, of(r.small(), r.small()), l)
	}
}

func TestPaidSoOften(t *testing.T) { // P6.3
	for _, c := range pairs([]int{0, 1, 2, 7}) {
		for _, b := range pairs([]int{0, 1, 20, 21, 22, 1000}) {
			for n := range 12 {
				left, err := b.Pay(budget.Times(c, n))
				each, ok := oneByOne(b, slices.Repeat([]budget.Budget{c}, n))
				if left != each || ok != (err == api.OK) {
					t.Errorf("%v %d times of %v: %v, %d, and one by one %v, %v", c, n, b, left, err, each, ok)
				}
			}
		}
	}
}

func TestPaidAtTheBound(t *testing.T) { // P6.3: up to 2^40 nothing is bounded
	for _, l := range [][]budget.Budget{nil, {of(top, top)}, {of(top-1, 1), of(1, top-1)}, {of(1<<39, 1<<39), of(1<<39, 1<<39)}, {of(top, 0), of(0, top)}, {of(top-5, 3), of(2, 3), of(3, 3)}} {
		if !together(t, budget.New(top, top), l) {
			t.Errorf("%v can't be paid", l)
		}
		if together(t, of(top-1, top-1), l) != (len(l) == 0) {
			t.Errorf("%v of less than 2^40", l)
		}
	}
}

func TestWhatIsPaidFromStays(t *testing.T) { // R3: neither budget is turned, also where they are called by their address
	for _, c := range payments() {
		b, p := c.b, c.c
		(&b).Can(p)
		(&b).Pay(p)
		budget.Sum(b, p)
		budget.Times(b, 3)
		if b != c.b || p != c.c {
			t.Errorf("%v and %v are %v and %v then", c.b, c.c, b, p)
		}
	}
}

func TestSumKeepsNothing(t *testing.T) { // R3: not what is behind a list's end either
	room := []budget.Budget{of(1, 2), of(-3, top+4), of(5, 6), of(7, 8)}
	kept := slices.Clone(room)
	first := budget.Sum(room[:2]...)
	if !slices.Equal(room, kept) || first != of(1, top) {
		t.Errorf("%v: %v, and %v then", kept, first, room)
	}
	room[0] = of(100, 100)
	if first != of(1, top) || budget.Sum(kept[:2]...) != first {
		t.Errorf("there is %v then", first)
	}
}

// answer is what all calls tell of some.
type answer struct {
	made, left, sum, times budget.Budget
	err                    api.Errno
	can                    bool
}

func asked(b, c budget.Budget) answer {
	left, err := b.Pay(c)
	return answer{made: budget.New(b.Fuel, c.Cells), left: left, sum: budget.Sum(b, c, b), times: budget.Times(b, c.Fuel), err: err, can: b.Can(c)}
}

func TestAnswersHangOnNothingElse(t *testing.T) { // R4, P1: asked again, the other way round, and side by side, of any numbers
	r := random(13)
	l := append(pairs(edges()), r.many(2000)...)
	ask := func(i int) answer { return asked(l[i], l[(i*7+3)%len(l)]) }
	var got []answer
	for i := range l {
		got = append(got, ask(i))
	}
	var group sync.WaitGroup
	for range 4 {
		group.Go(func() {
			for i := len(l) - 1; i >= 0; i-- {
				if a := ask(i); a != got[i] {
					t.Errorf("%v: %v, and then %v", l[i], got[i], a)
				}
			}
		})
	}
	group.Wait()
}
