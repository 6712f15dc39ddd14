package adverb_test

import (
	"slices"
	"strconv"
	"testing"

	"reredos/api"
	"reredos/prim"
)

// asked is what a call asks of some arrays, in turn, and what it tells of the questions' numbers.
type asked struct {
	name       string
	v, w, want api.Val
	questions  []string
}

// turns are such, of each call, of few and more axes, one side and the other.
func turns() []asked {
	m, cube := grid(ints(2, 3), "1 2 3 4 5 6"), grid(ints(2, 1, 2), "5 0 -7 8")
	return []asked{
		{"Each", only("4"), zero, only("1"), texts("One 4")},
		{"Each", row("4 5 6"), zero, row("1 2 3"), texts("One 4", "One 5", "One 6")},
		{"Each", row("4"), zero, row("1"), texts("One 4")},
		{"Each", m, zero, row("1 2"), texts("One 3#1,2,3", "One 3#4,5,6")},
		{"Each", cube, zero, row("1 2"), texts("One 1#2#5,0", "One 1#2#-7,8")},
		{"Each", of(ints(3, 0)), zero, row("1 2 3"), texts("One 0#", "One 0#", "One 0#")},
		{"Each", of(ints(2, 0, 5)), zero, row("1 2"), texts("One 0#5#", "One 0#5#")},
		{"Each", of(ints(0, 3)), zero, of(ints(0, 3)), nil},
		{"Reduce", row("4 5 6 7"), zero, only("3"), texts("Two 4 5", "Two 1 6", "Two 2 7")},
		{"Reduce", row("4 5"), zero, only("1"), texts("Two 4 5")},
		{"Reduce", row("4"), zero, only("4"), nil},
		{"Reduce", only("4"), zero, only("4"), nil},
		{"Reduce", m, zero, only("1"), texts("Two 3#1,2,3 3#4,5,6")},
		{"Reduce", grid(ints(3, 1), "7 8 9"), zero, only("2"), texts("Two 1#7 1#8", "Two 1 1#9")},
		{"Reduce", cube, zero, only("1"), texts("Two 1#2#5,0 1#2#-7,8")},
		{"Reduce", grid(ints(1, 1, 2), "5 0"), zero, grid(ints(1, 2), "5 0"), nil},
		{"Reduce", of(ints(3, 0)), zero, only("2"), texts("Two 0# 0#", "Two 1 0#")},
		{"Scan", row("4 5 6 7"), zero, row("4 1 2 3"), texts("Two 4 5", "Two 1 6", "Two 2 7")},
		{"Scan", row("4"), zero, row("4"), nil},
		{"Scan", only("4"), zero, only("4"), nil},
		{"Scan", grid(ints(1, 3), "1 2 3"), zero, grid(ints(1, 3), "1 2 3"), nil},
		{"Scan", of(ints(0, 3)), zero, of(ints(0, 3)), nil},
		{"Prior", row("4 5 6 7"), zero, row("4 1 2 3"), texts("Two 5 4", "Two 6 5", "Two 7 6")},
		{"Prior", row("4"), zero, row("4"), nil},
		{"Prior", only("4"), zero, only("4"), nil},
		{"Prior", grid(ints(1, 2, 1), "1 2"), zero, grid(ints(1, 2, 1), "1 2"), nil},
		{"Prior", of(ints(0, 3)), zero, of(ints(0, 3)), nil},
		{"Both", only("4"), only("9"), only("1"), texts("Two 4 9")},
		{"Both", only("4"), row("7 8 9"), row("1 2 3"), texts("Two 4 7", "Two 4 8", "Two 4 9")},
		{"Both", row("7 8 9"), only("4"), row("1 2 3"), texts("Two 7 4", "Two 8 4", "Two 9 4")},
		{"Both", only("4"), m, row("1 2"), texts("Two 4 3#1,2,3", "Two 4 3#4,5,6")},
		{"Both", m, only("4"), row("1 2"), texts("Two 3#1,2,3 4", "Two 3#4,5,6 4")},
		{"Both", row("4 5"), row("7 8"), row("1 2"), texts("Two 4 7", "Two 5 8")},
		{"Both", row("4"), row("7"), row("1"), texts("Two 4 7")},
		{"Both", m, row("7 8"), row("1 2"), texts("Two 3#1,2,3 7", "Two 3#4,5,6 8")},
		{"Both", row("7 8"), m, row("1 2"), texts("Two 7 3#1,2,3", "Two 8 3#4,5,6")},
		{"Both", m, cube, row("1 2"), texts("Two 3#1,2,3 1#2#5,0", "Two 3#4,5,6 1#2#-7,8")},
		{"Both", cube, of(ints(2, 0)), row("1 2"), texts("Two 1#2#5,0 0#", "Two 1#2#-7,8 0#")},
		{"Both", of(ints(0, 3)), of(ints(0, 2)), of(ints(0, 3)), nil},
		{"Both", of(ints(0, 3)), only("1"), of(ints(0, 3)), nil},
		{"Both", only("1"), of(ints(0, 3)), of(ints(0, 3)), nil},
		{"Outer", row("4 5"), row("7 8 9"), grid(ints(2, 3), "1 2 3 4 5 6"), texts("Two 4 7", "Two 4 8", "Two 4 9", "Two 5 7", "Two 5 8", "Two 5 9")},
		{"Outer", row("4"), row("7"), grid(ints(1, 1), "1"), texts("Two 4 7")},
		{"Outer", m, row("7 8"), grid(ints(2, 2), "1 2 3 4"), texts("Two 3#1,2,3 7", "Two 3#1,2,3 8", "Two 3#4,5,6 7", "Two 3#4,5,6 8")},
		{"Outer", row("7 8"), m, grid(ints(2, 2), "1 2 3 4"), texts("Two 7 3#1,2,3", "Two 7 3#4,5,6", "Two 8 3#1,2,3", "Two 8 3#4,5,6")},
		{"Outer", m, cube, grid(ints(2, 2), "1 2 3 4"), texts("Two 3#1,2,3 1#2#5,0", "Two 3#1,2,3 1#2#-7,8", "Two 3#4,5,6 1#2#5,0", "Two 3#4,5,6 1#2#-7,8")},
		{"Outer", m, m, grid(ints(2, 2), "1 2 3 4"), texts("Two 3#1,2,3 3#1,2,3", "Two 3#1,2,3 3#4,5,6", "Two 3#4,5,6 3#1,2,3", "Two 3#4,5,6 3#4,5,6")},
		{"Outer", row("4 5"), only("7"), row("1 2"), texts("Two 4 7", "Two 5 7")},
		{"Outer", m, only("7"), row("1 2"), texts("Two 3#1,2,3 7", "Two 3#4,5,6 7")},
		{"Outer", only("4"), only("9"), only("1"), texts("Two 4 9")},
		{"Outer", only("4"), row("7 8"), row("1 2"), texts("Two 4 7", "Two 4 8")},
		{"Outer", only("4"), m, row("1 2"), texts("Two 4 3#1,2,3", "Two 4 3#4,5,6")},
		{"Outer", only("4"), row(""), row(""), nil},
		{"Outer", row(""), row("7 8"), row(""), nil},
		{"Outer", of(ints(0, 3)), only("7"), of(ints(0, 3)), nil},
		{"Outer", row("4 5"), of(ints(0, 3)), of(ints(2, 0, 3)), nil},
		{"Outer", of(ints(2, 0)), row("7 8"), grid(ints(2, 2), "1 2 3 4"), texts("Two 0# 7", "Two 0# 8", "Two 0# 7", "Two 0# 8")},
	}
}

func TestTurn(t *testing.T) { // P17.1, P17.2: what the verb is asked, at which side, and in which turn
	for _, c := range turns() {
		asks(t, c.name, &spy{tells: number}, c.v, c.w, c.want, api.OK, c.questions...)
	}
}

func TestWhatTheVerbTells(t *testing.T) { // P17.1, P17.2: arrays of other shapes than the items, joined as they come
	pair, twice := always(row("8 9")), always(grid(ints(1, 2), "8 9"))
	for _, c := range []struct {
		name       string
		tells      func(int, ...api.Val) api.Val
		v, w, want api.Val
	}{
		{"Each", pair, only("4"), zero, row("8 9")}, {"Each", pair, row("4 5"), zero, grid(ints(2, 2), "8 9 8 9")}, {"Each", twice, row("4 5"), zero, grid(ints(2, 1, 2), "8 9 8 9")}, {"Each", pair, of(ints(1, 0, 7)), zero, grid(ints(1, 2), "8 9")}, {"Each", always(row("")), row("4 5"), zero, of(ints(2, 0))}, {"Each", always(of(ints(0, 3))), row("4 5"), zero, of(ints(2, 0, 3))}, {"Each", always(filled(ints(1, 1, 1), "6")), only("4"), zero, filled(ints(1, 1, 1), "6")},
		{"Reduce", pair, row("4 5"), zero, row("8 9")}, {"Reduce", growing, row("4 5 6"), zero, row("2 3")}, {"Reduce", always(filled(ints(1, 1, 1), "6")), row("4 5 6"), zero, filled(ints(1, 1, 1), "6")}, {"Reduce", always(filled(ints(4096), "6")), row("4 5 6"), zero, filled(ints(4096), "6")}, {"Reduce", always(row("")), row("4 5"), zero, row("")}, {"Reduce", last, row("4 5 6"), zero, only("6")}, {"Reduce", first, row("4 5 6"), zero, only("4")}, {"Reduce", elements, row("4 5 6"), zero, row("4 5 6")},
		{"Scan", pair, grid(ints(2, 2), "1 2 3 4"), zero, grid(ints(2, 2), "1 2 8 9")}, {"Scan", last, row("4 5 6"), zero, row("4 5 6")}, {"Scan", first, row("4 5 6"), zero, row("4 4 4")},
		{"Prior", pair, grid(ints(3, 2), "1 2 3 4 5 6"), zero, grid(ints(3, 2), "1 2 8 9 8 9")}, {"Prior", last, row("4 5 6"), zero, row("4 4 5")}, {"Prior", first, row("4 5 6"), zero, row("4 5 6")},
		{"Both", pair, only("4"), only("5"), row("8 9")}, {"Both", twice, row("4 5"), only("1"), grid(ints(2, 1, 2), "8 9 8 9")}, {"Both", elements, row("4 5"), grid(ints(2, 2), "1 2 3 6"), grid(ints(2, 3), "4 1 2 5 3 6")}, {"Both", first, only("7"), row("4 5"), row("7 7")}, {"Both", last, row("4 5"), only("7"), row("7 7")}, {"Both", last, only("7"), grid(ints(2, 2), "1 2 3 4"), grid(ints(2, 2), "1 2 3 4")}, {"Both", always(row("")), row("4 5"), row("6 7"), of(ints(2, 0))},
		{"Outer", pair, row("4 5"), row("6"), grid(ints(2, 1, 2), "8 9 8 9")}, {"Outer", twice, row("4 5"), only("6"), grid(ints(2, 1, 2), "8 9 8 9")}, {"Outer", first, row("4 5"), row("6 7"), grid(ints(2, 2), "4 4 5 5")}, {"Outer", last, row("4 5"), row("6 7"), grid(ints(2, 2), "6 7 6 7")}, {"Outer", first, grid(ints(2, 2), "1 2 3 4"), row("6 7"), grid(ints(2, 2, 2), "1 2 1 2 3 4 3 4")}, {"Outer", last, row("6 7"), grid(ints(2, 2), "1 2 3 4"), grid(ints(2, 2, 2), "1 2 3 4 1 2 3 4")}, {"Outer", always(row("")), row("4 5"), row("6 7 8"), of(ints(2, 3, 0))}, {"Outer", elements, grid(ints(2, 2), "1 2 3 4"), row("6"), grid(ints(2, 1, 3), "1 2 6 3 4 6")},
	} {
		tells(t, c.name, &spy{tells: c.tells}, c.v, c.w, c.want, api.OK)
	}
}

func TestErrorsOfTheVerb(t *testing.T) { // at each question, of any number: it is told, and nothing is asked behind it, nor joined
	unlike := always(row("1 2"))
	for _, c := range turns() {
		for i := range c.questions {
			for _, err := range []api.Errno{api.ErrArg, api.ErrForm, api.ErrRank, api.ErrShape, api.ErrDom, api.ErrIndex, api.ErrName, api.ErrBig, api.ErrLimit, api.ErrDeep, 77, -1} {
				asks(t, c.name, &spy{tells: number, fails: i + 1, err: err}, c.v, c.w, zero, err, c.questions[:i+1]...)
			}
		}
	}
	for _, c := range []asked{ // ahead of what is unlike, of too many axes and of too many elements
		{"Each", row("4 5 6"), zero, zero, nil}, {"Reduce", row("4 5 6 7"), zero, zero, nil}, {"Scan", row("4 5 6 7"), zero, zero, nil}, {"Prior", row("4 5 6 7"), zero, zero, nil}, {"Both", row("4 5 6"), row("7 8 9"), zero, nil}, {"Both", only("4"), row("7 8 9"), zero, nil}, {"Both", row("7 8 9"), only("4"), zero, nil}, {"Outer", row("4"), row("7 8 9"), zero, nil}, {"Outer", only("4"), row("7 8 9"), zero, nil}, {"Outer", row("7 8 9"), only("4"), zero, nil},
	} {
		for _, tell := range []func(int, ...api.Val) api.Val{growing, but(1, only("3"), row("3")), always(filled(ints(1, 1, 1), "1")), always(filled(ints(4096), "1")), unlike} {
			tells(t, c.name, &spy{tells: tell, fails: 3, err: api.ErrName}, c.v, c.w, zero, api.ErrName)
		}
	}
}

func TestFirstErrorAmongMany(t *testing.T) { // of signs: the first one in turn, whatever comes behind
	for _, c := range []two{
		{"%", row("1 2 3"), row("1 0 0"), zero, api.ErrDom}, {"#", row("2 -1 4097"), only("1"), zero, api.ErrDom}, {"#", row("2 4097 -1"), only("1"), zero, api.ErrBig}, {"#", row("3 1 2 -1"), only("1"), zero, api.ErrDom}, {"@", row("0 1 2"), only("0"), zero, api.ErrRank}, {"@", grid(ints(1, 2), "7 8"), row("2"), zero, api.ErrIndex}, {"^", row("1"), row("1"), zero, api.ErrRank},
	} {
		tells(t, "Both", prim.Sign(c.op), c.v, c.w, c.want, c.err)
	}
	for _, c := range []two{
		{"#", row("2 -1"), row("1 2"), zero, api.ErrDom}, {"#", row("4097 -1"), row("1 2"), zero, api.ErrBig}, {"@", grid(ints(2, 2), "7 8 9 9"), row("0 1 2"), zero, api.ErrIndex}, {"@", grid(ints(2, 2), "7 8 9 9"), row("0 -1"), zero, api.ErrIndex}, {"%", row("1 2"), row("0"), zero, api.ErrDom},
	} {
		tells(t, "Outer", prim.Sign(c.op), c.v, c.w, c.want, c.err)
	}
}

func TestErrorsOfJoin(t *testing.T) { // unlike ones, then too many axes, then too many elements
	three, thousands := row("4 5 6"), filled(ints(2049), "1")
	for n := range 4 { // unlike at the first question, at one in the middle, at the last one, and at none
		unlike := func() *spy { return &spy{tells: but(n+1, row("3"), only("3"))} }
		err := api.ErrShape
		if n == 3 {
			err = api.OK
		}
		for _, c := range []asked{
			{"Each", three, zero, row("3 3 3"), nil}, {"Both", only("1"), three, row("3 3 3"), nil}, {"Both", three, only("1"), row("3 3 3"), nil}, {"Both", three, three, row("3 3 3"), nil}, {"Outer", three, only("1"), row("3 3 3"), nil}, {"Outer", only("1"), three, row("3 3 3"), nil}, {"Outer", row("1"), three, grid(ints(1, 3), "3 3 3"), nil}, {"Outer", three, row("1"), grid(ints(3, 1), "3 3 3"), nil},
		} {
			if err != api.OK {
				c.want = zero
			}
			tells(t, c.name, unlike(), c.v, c.w, c.want, err)
		}
	}
	for _, c := range []struct {
		name  string
		tells func(int, ...api.Val) api.Val
		v, w  api.Val
		err   api.Errno
	}{
		{"Scan", number, grid(ints(2, 1), "1 2"), zero, api.ErrShape}, {"Scan", but(1, row("3"), only("3")), row("4 5 6"), zero, api.ErrShape}, {"Scan", but(2, row("3"), only("3")), row("4 5 6"), zero, api.ErrShape}, {"Prior", number, grid(ints(2, 1), "1 2"), zero, api.ErrShape}, {"Prior", but(1, row("3"), only("3")), row("4 5 6"), zero, api.ErrShape}, {"Prior", but(2, row("3"), only("3")), row("4 5 6"), zero, api.ErrShape},
		{"Each", always(filled(ints(1, 1, 1), "1")), row("4"), zero, api.ErrRank}, {"Each", always(of(ints(1, 1, 0))), row("4 5"), zero, api.ErrRank}, {"Each", but(2, filled(ints(1, 1, 2), "1"), filled(ints(1, 1, 1), "1")), row("4 5"), zero, api.ErrShape}, {"Each", always(filled(ints(16, 16, 16), "1")), row("4 5"), zero, api.ErrRank}, {"Each", always(thousands), row("4 5"), zero, api.ErrBig}, {"Each", but(2, filled(ints(2050), "1"), thousands), row("4 5"), zero, api.ErrShape},
		{"Both", always(filled(ints(1, 1, 1), "1")), row("4"), row("5"), api.ErrRank}, {"Both", always(filled(ints(1, 1, 1), "1")), only("4"), row("5"), api.ErrRank}, {"Both", always(filled(ints(1, 1, 1), "1")), row("4"), only("5"), api.ErrRank}, {"Both", always(thousands), row("4 5"), row("5 6"), api.ErrBig}, {"Both", always(thousands), only("4"), row("5 6"), api.ErrBig}, {"Both", always(thousands), row("4 5"), only("6"), api.ErrBig},
		{"Outer", always(filled(ints(1, 1, 1), "1")), row("4"), row("5"), api.ErrRank}, {"Outer", always(grid(ints(1, 1), "1")), row("4"), row("5"), api.ErrRank}, {"Outer", always(filled(ints(1, 1, 1), "1")), row("4"), only("5"), api.ErrRank}, {"Outer", always(filled(ints(1, 1, 1), "1")), only("4"), row("5"), api.ErrRank}, {"Outer", always(thousands), row("4"), row("5 6"), api.ErrBig}, {"Outer", always(thousands), row("4 5"), row("6"), api.ErrBig}, {"Outer", always(filled(ints(1025), "1")), row("4 5"), row("6 7"), api.ErrBig}, {"Outer", always(thousands), row("4 5"), only("6"), api.ErrBig}, {"Outer", always(thousands), only("4"), row("5 6"), api.ErrBig}, {"Outer", number, filled(ints(65), "1"), filled(ints(64), "1"), api.ErrBig}, {"Outer", number, filled(ints(2), "1"), filled(ints(2049), "1"), api.ErrBig},
		{"Outer", but(3, row("3"), only("3")), row("4 5"), row("6 7"), api.ErrShape}, {"Outer", but(4, row("3"), only("3")), row("4 5"), row("6 7"), api.ErrShape}, {"Outer", but(2, row("3"), only("3")), row("4 5"), row("6 7"), api.ErrShape},
	} {
		tells(t, c.name, &spy{tells: c.tells}, c.v, c.w, zero, c.err)
	}
	rows := func(n int, _ ...api.Val) api.Val { return counted(ints((n+1)/2), 0) } // alike in each row of two, but not from row to row
	tells(t, "Outer", &spy{tells: rows}, row("4 5"), row("6 7"), zero, api.ErrShape)
	tells(t, "Outer", &spy{tells: rows}, row("4"), row("6 7"), grid(ints(1, 2, 1), "0 0"), api.OK)
	tells(t, "Each", &spy{tells: always(filled(ints(2048), "1"))}, row("4 5"), zero, filled(ints(2, 2048), "1"), api.OK)
	tells(t, "Outer", &spy{tells: always(filled(ints(1024), "1"))}, row("4 5"), row("6 7"), filled(ints(2, 2, 1024), "1"), api.OK)
}

func TestUnit(t *testing.T) { // P17.1: of one axis, if there is one; whatever it is
	for _, unit := range []api.Val{only("7"), row(""), row("1 2"), grid(ints(1, 1, 2), "3 4"), of(ints(0, 5))} {
		asks(t, "Reduce", &spy{unit: unit, has: true}, row(""), zero, unit, api.OK)
		asks(t, "Reduce", &spy{unit: unit, has: true}, of(ints(0, 0)), zero, zero, api.ErrDom)
		asks(t, "Reduce", &spy{unit: unit, has: true}, of(ints(0, 3)), zero, zero, api.ErrDom)
		asks(t, "Reduce", &spy{unit: unit, has: true}, of(ints(0, 1, 1)), zero, zero, api.ErrDom)
		asks(t, "Reduce", &spy{unit: unit, has: true}, row("4"), zero, only("4"), api.OK)
		asks(t, "Reduce", &spy{unit: unit, has: true, tells: number}, row("4 5"), zero, only("1"), api.OK, "Two 4 5")
		asks(t, "Reduce", &spy{unit: unit, has: true}, only("4"), zero, only("4"), api.OK)
		asks(t, "Reduce", &spy{unit: unit}, row(""), zero, zero, api.ErrDom) // what stands beside a false is nothing
		for _, c := range calls() {
			if c.name != "Reduce" {
				asks(t, c.name, &spy{unit: unit, has: true}, row(""), row(""), row(""), api.OK)
			}
		}
	}
	asks(t, "Reduce", &spy{}, row(""), zero, zero, api.ErrDom)
	asks(t, "Reduce", &spy{}, of(ints(0, 3)), zero, zero, api.ErrDom)
}

func TestNilVerb(t *testing.T) { // ErrArg, ahead of all else
	l := slices.Concat(good(), bad())
	for i, v := range l {
		for _, c := range calls() {
			tells(t, c.name, nil, v, l[(i*7+3)%len(l)], zero, api.ErrArg)
			tells(t, c.name, nil, v, v, zero, api.ErrArg)
		}
	}
}

func TestMayNotBe(t *testing.T) { // R1, R5: ErrArg, as the one, as the other, and as both, and no verb is asked
	mayNotBe(t, slices.DeleteFunc(bad(), veryMany))
}

// mayNotBe asks all calls of arrays that may not be, beside some that may. (A verb that doesn't fail is asked of few items beside them alone, as it may be asked all.)
func mayNotBe(t *testing.T, l []api.Val) {
	t.Helper()
	fine := []api.Val{only("0"), only("-1"), row(""), row("7"), row("1 2"), row("1 2 3"), grid(ints(2, 3), "1 2 3 4 5 6"), of(ints(0, 3)), of(ints(3, 0)), of(ints(0, furthest)), grid(ints(1, 1, 1), "0"), filled(ints(4096), "1")}
	failing := func() *spy { return &spy{fails: 1, err: api.ErrName} }
	for i, v := range l {
		for _, c := range ofOne() {
			asks(t, c.name, failing(), v, zero, zero, api.ErrArg)
		}
		for _, c := range ofTwo() {
			for _, w := range append(fine, v, l[(7*i+3)%len(l)]) {
				asks(t, c.name, failing(), v, w, zero, api.ErrArg)
				asks(t, c.name, failing(), w, v, zero, api.ErrArg)
			}
		}
		for _, c := range calls() {
			asks(t, c.name, &spy{tells: number, unit: only("1"), has: true}, v, row("1 2"), zero, api.ErrArg)
			for _, op := range texts("-", "+", ",", "", "F") {
				tells(t, c.name, prim.Sign(op), v, only("1"), zero, api.ErrArg)
			}
		}
	}
}

func TestManyItems(t *testing.T) { // of more items than there may be elements, as none of them has one
	const many = 9000
	v, name := of(ints(many, 0)), strconv.Itoa(many)
	for _, c := range []struct {
		call, op string
		w, want  api.Val
		err      api.Errno
	}{
		{"Each", "-", zero, v, api.OK}, {"Each", ",", zero, v, api.OK}, {"Each", "#", zero, zero, api.ErrBig}, {"Each", "=", zero, zero, api.ErrBig}, {"Each", "%", zero, zero, api.ErrArg},
		{"Reduce", "+", zero, row(""), api.OK}, {"Reduce", ",", zero, row(""), api.OK}, {"Scan", "+", zero, v, api.OK}, {"Scan", ",", zero, v, api.OK}, {"Scan", "F", zero, zero, api.ErrArg}, {"Prior", "-", zero, v, api.OK},
		{"Both", "-", only("1"), v, api.OK}, {"Both", "-", v, v, api.OK}, {"Both", ",", only("1"), zero, api.ErrBig}, {"Both", "-", of(ints(many+1, 0)), zero, api.ErrShape}, {"Both", "@", of(ints(many, 0, 2)), of(ints(many, 0, 2)), api.OK},
		{"Outer", "-", only("1"), v, api.OK}, {"Outer", "-", row("1"), of(ints(many, 1, 0)), api.OK}, {"Outer", "-", row(""), v, api.OK}, {"Outer", ",", row("1"), zero, api.ErrBig}, {"Outer", "-", of(ints(0, 3)), of(ints(many, 0, 3)), api.OK}, {"Outer", "F", of(ints(0, 3, 2)), zero, api.ErrRank},
	} {
		tells(t, c.call, prim.Sign(c.op), v, c.w, c.want, c.err)
	}
	tells(t, "Both", prim.Sign("-"), only("1"), v, v, api.OK)
	tells(t, "Outer", prim.Sign("-"), only("1"), v, v, api.OK)
	tells(t, "Outer", prim.Sign("-"), row("1"), v, of(ints(1, many, 0)), api.OK)
	tells(t, "Reduce", &spy{tells: number}, v, zero, only(strconv.Itoa(many-1)), api.OK)
	tells(t, "Reduce", &spy{tells: number}, of(ints(1, 0)), zero, row(""), api.OK)
	for _, n := range ints(1, 2, 4096, 4097, 4098, 4099, many-1, many) { // where one is unlike, and where one fails
		for _, c := range texts("Each", "Both", "Outer") {
			tells(t, c, &spy{tells: but(n, only("1"), row(""))}, v, only("1"), zero, api.ErrShape)
			tells(t, c, &spy{tells: but(n, row("1"), row(""))}, v, only("1"), zero, api.ErrShape)
			tells(t, c, &spy{tells: but(n, row(""), row("1"))}, v, only("1"), zero, api.ErrShape)
			tells(t, c, &spy{tells: but(n, row(""), filled(ints(1, 1, 1), "1"))}, v, only("1"), zero, api.ErrShape)
			tells(t, c, &spy{tells: always(row("1")), fails: n, err: api.ErrName}, v, only("1"), zero, api.ErrName)
		}
		if n < many { // there is a question less
			for _, c := range texts("Scan", "Prior") {
				tells(t, c, &spy{tells: but(n, only("1"), row(""))}, v, zero, zero, api.ErrShape)
				tells(t, c, &spy{tells: always(row("")), fails: n, err: api.ErrName}, v, zero, zero, api.ErrName)
			}
			tells(t, "Reduce", &spy{tells: always(row("")), fails: n, err: api.ErrName}, v, zero, zero, api.ErrName)
		}
	}
	for _, c := range texts("Each", "Both", "Outer") {
		s := &spy{tells: but(2, only("1"), row("1")), fails: many, err: api.ErrLimit}
		tells(t, c, s, v, only("1"), zero, api.ErrLimit)
		if len(s.asked) != many {
			t.Errorf("%s of %s items asked %d", c, name, len(s.asked))
		}
	}
}
