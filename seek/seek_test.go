package seek_test

import (
	"slices"
	"strconv"
	"strings"
	"sync"
	"testing"

	"reredos/api"
	"reredos/num"
	"reredos/seek"
	"reredos/val"
)

// The calls, with the exact signatures that the chapter lists.
var (
	_ func(v api.Val) (api.Val, api.Errno)        = seek.Up
	_ func(v api.Val) (api.Val, api.Errno)        = seek.Down
	_ func(v api.Val) (api.Val, api.Errno)        = seek.Where
	_ func(v api.Val) (api.Val, api.Errno)        = seek.Unique
	_ func(v, w api.Val) (api.Val, api.Errno)     = seek.Find
	_ func(v, w api.Val) (api.Val, api.Errno)     = seek.Index
	_ func(v, at, w api.Val) (api.Val, api.Errno) = seek.Amend
)

// ones are the calls of one array, all of a vector.
func ones() []string { return texts("Up", "Down", "Where", "Unique") }

// twos are the calls of two.
func twos() []string { return texts("Find", "Index") }

// ask makes a call, by its name.
func ask(call string, l ...api.Val) (api.Val, api.Errno) {
	switch call {
	case "Up":
		return seek.Up(l[0])
	case "Down":
		return seek.Down(l[0])
	case "Where":
		return seek.Where(l[0])
	case "Unique":
		return seek.Unique(l[0])
	case "Find":
		return seek.Find(l[0], l[1])
	case "Index":
		return seek.Index(l[0], l[1])
	case "Amend":
		return seek.Amend(l[0], l[1], l[2])
	}
	panic(call)
}

// asks asks for what comes out; what it is may be, whenever it is an array.
func asks(t *testing.T, call string, want api.Val, wantErr api.Errno, l ...api.Val) {
	t.Helper()
	got, err := ask(call, l...)
	if !like(got, want) || err != wantErr || err == api.OK && !val.May(got) {
		t.Errorf("%s of %s: %s, %d; not %s, %d", call, short(l...), short(got), err, short(want), wantErr)
	}
}

// tells asks for an array.
func tells(t *testing.T, call string, want api.Val, l ...api.Val) {
	t.Helper()
	asks(t, call, want, api.OK, l...)
}

// no asks where nothing but an error is told.
func no(t *testing.T, call string, want api.Errno, l ...api.Val) {
	t.Helper()
	asks(t, call, zero, want, l...)
}

// hold holds a call against the chapter's words.
func hold(t *testing.T, call string, l ...api.Val) {
	t.Helper()
	want, err := said(call, l...)
	asks(t, call, want, err, l...)
}

// sure is what comes out without an error.
func sure(t *testing.T, call string, l ...api.Val) api.Val {
	t.Helper()
	got, err := ask(call, l...)
	if err != api.OK {
		t.Fatalf("%s of %s: %d", call, short(l...), err)
	}
	return got
}

func TestExample(t *testing.T) { // the chapter's
	tells(t, "Up", row("1 2 0"), row("30 10 20"))
}

func TestUpAndDown(t *testing.T) { // P15.1
	for _, c := range []struct{ elems, up, down string }{
		{"", "", ""}, {"7", "0", "0"}, {"-" + nines(100), "0", "0"}, {"1 2", "0 1", "1 0"}, {"2 1", "1 0", "0 1"},
		{"1 2 3 4 5", "0 1 2 3 4", "4 3 2 1 0"}, {"5 4 3 2 1", "4 3 2 1 0", "0 1 2 3 4"}, {"30 10 20", "1 2 0", "0 2 1"},
		{"5 5", "0 1", "0 1"}, {"5 5 5 5 5 5 5", "0 1 2 3 4 5 6", "0 1 2 3 4 5 6"}, {"0 0 0", "0 1 2", "0 1 2"}, // alike ones: the first place first, both ways
		{"2 1 2 1 3 1", "1 3 5 0 2 4", "4 0 2 1 3 5"}, {"1 2 1 2 0 2", "4 0 2 1 3 5", "1 3 5 0 2 4"}, {"3 3 1 1 2 2", "2 3 4 5 0 1", "0 1 4 5 2 3"}, {"9 1 9", "1 0 2", "0 2 1"}, {"1 9 1", "0 2 1", "1 0 2"},
		{"0 -1 1 -10 10", "3 1 0 2 4", "4 2 0 1 3"}, {"-1 -2 -1 -2 -3", "4 1 3 0 2", "0 2 1 3 4"}, {"1 -1 0 -1 1", "1 3 2 0 4", "0 4 2 1 3"}, // below 0
		{"10 9 100 99 1000 999", "1 0 3 2 5 4", "4 5 2 3 0 1"}, {"-10 -9 -100 -99", "2 3 0 1", "1 0 3 2"}, // not as texts are compared
		{"9223372036854775808 9223372036854775807 18446744073709551617 1 -9223372036854775809 -9223372036854775808", "4 5 3 1 0 2", "2 0 1 3 5 4"}, // not as 64 bits are
	} {
		tells(t, "Up", row(c.up), row(c.elems))
		tells(t, "Down", row(c.down), row(c.elems))
	}
	for _, c := range []struct{ less, more string }{ // a hundred figures, of which the last one is another, or one less, or the sign
		{nines(99) + "8", nines(100)}, {power(99), power(98) + "1"}, {power(98) + "1", power(98) + "2"}, {"-" + nines(100), "-" + nines(99) + "8"}, {nines(99), nines(100)}, {nines(99), power(99)}, {"-" + power(99), "-" + nines(99)}, {"-" + nines(100), nines(100)}, {"-" + nines(100), "-" + nines(99)}, {"0", nines(100)}, {"-" + power(99), "0"}, {"-1", "0"}, {"-1", "1"}, {"-" + nines(100), "1"}, {"-1", power(99)},
	} {
		tells(t, "Up", row("0 1"), row(c.less+" "+c.more))
		tells(t, "Up", row("1 0"), row(c.more+" "+c.less))
		tells(t, "Down", row("1 0"), row(c.less+" "+c.more))
		tells(t, "Down", row("0 1"), row(c.more+" "+c.less))
		tells(t, "Up", row("0 2 1 3"), row(c.less+" "+c.more+" "+c.less+" "+c.more))
		tells(t, "Down", row("1 3 0 2"), row(c.less+" "+c.more+" "+c.less+" "+c.more))
	}
}

func TestAllOrders(t *testing.T) { // P15.1: each vector of up to six elements of three numbers
	for many := range 7 {
		all := 1
		for range many {
			all *= 3
		}
		for n := range all {
			v := of(ints(many))
			for range many {
				v.Elems = append(v.Elems, texts("-12", "0", "7")[n%3])
				n /= 3
			}
			hold(t, "Up", v)
			hold(t, "Down", v)
			hold(t, "Where", v)
			hold(t, "Unique", v)
		}
	}
}

func TestManyElements(t *testing.T) { // P15.1, R4: each kind of vector, up to MaxCells
	for _, v := range vectors() {
		for _, call := range ones() {
			hold(t, call, v)
		}
	}
	n := 4096
	rises, falls := counted(ints(n), -100), counted(ints(n), -100)
	slices.Reverse(falls.Elems)
	places := counted(ints(n), 0)
	turned := of(ints(n), slices.Clone(places.Elems)...)
	slices.Reverse(turned.Elems)
	tells(t, "Up", places, rises)
	tells(t, "Down", turned, rises)
	tells(t, "Up", turned, falls)
	tells(t, "Down", places, falls)
	for _, s := range texts("0", "-7", nines(100)) {
		tells(t, "Up", places, filled(ints(n), s))
		tells(t, "Down", places, filled(ints(n), s))
		tells(t, "Unique", row(s), filled(ints(n), s))
	}
}

func TestNoVectors(t *testing.T) { // P15.1, R1: ErrRank, whatever the elements are
	for _, s := range shapes() {
		if len(s) == 1 {
			continue
		}
		for _, elem := range texts("0", "1", "-1", "4097", "1099511627777", "-"+nines(100)) {
			for _, call := range ones() {
				no(t, call, api.ErrRank, filled(s, elem))
			}
		}
	}
	for _, call := range ones() {
		no(t, call, api.ErrRank, only("3"))
		no(t, call, api.ErrRank, grid(ints(1, 3), "1 2 3"))
		no(t, call, api.ErrRank, grid(ints(3, 1), "1 2 3"))
		no(t, call, api.ErrRank, grid(ints(1, 3, 1), "1 2 3"))
	}
}

func TestWhere(t *testing.T) { // P15.1
	for _, c := range [][2]string{
		{"", ""}, {"0", ""}, {"0 0 0", ""}, {"1", "0"}, {"1 1 1", "0 1 2"}, {"0 1", "1"}, {"1 0", "0"}, {"0 1 0 0 1 1", "1 4 5"}, {"1 0 1 0", "0 2"},
		{"3", "0 0 0"}, {"2 0 3", "0 0 2 2 2"}, {"0 2 1", "1 1 2"}, {"1 2 3", "0 1 1 2 2 2"}, {"10", "0 0 0 0 0 0 0 0 0 0"},
	} {
		tells(t, "Where", row(c[1]), row(c[0]))
	}
	tells(t, "Where", counted(ints(4096), 0), filled(ints(4096), "1"))
	tells(t, "Where", row(""), filled(ints(4096), "0"))
	tells(t, "Where", filled(ints(4096), "0"), row("4096"))
	tells(t, "Where", filled(ints(4095), "1"), row("0 4095"))
	tells(t, "Where", filled(ints(4096), "2"), row("0 0 4096 0"))
	tells(t, "Where", of(ints(4096), append(slices.Repeat(texts("0"), 2048), slices.Repeat(texts("1"), 2048)...)...), row("2048 2048"))
	tells(t, "Where", of(ints(4096), append(slices.Repeat(texts("0"), 4095), "1")...), row("4095 1"))
	tells(t, "Where", row("4095"), of(ints(4096), append(slices.Repeat(texts("0"), 4095), "1")...))
}

func TestErrorsOfWhere(t *testing.T) { // P15.1, R1: each one, and those that are named first
	for _, elems := range texts("4097", "4096 1", "1 4096", "2048 2049", "0 4097 0", "4096 4096", "1000000", "4294967296", "4294967297", "1099511627776", "1099511627776 1099511627776", "1366 1366 1366") {
		no(t, "Where", api.ErrBig, row(elems))
	}
	no(t, "Where", api.ErrBig, of(ints(4096), append(slices.Repeat(texts("1"), 4095), "2")...))
	no(t, "Where", api.ErrBig, of(ints(4096), append(texts("2"), slices.Repeat(texts("1"), 4095)...)...))
	no(t, "Where", api.ErrBig, filled(ints(4096), "2"))
	no(t, "Where", api.ErrBig, filled(ints(4096), "1099511627776"))                                                                                                                                                           // 2^52 together
	for _, elems := range texts("-1", "0 -1", "-1 0", "1 -1", "-1 1", "5 -5", "1 2 -1 3", "-4096", "-1099511627776", "-1 4096", "4096 -1", "4097 -1", "4098 -1", "-1 4097", "1099511627776 -1099511627776", "4096 4096 -1") { // ahead of ErrBig, also where they are no more than 4096 together
		no(t, "Where", api.ErrDom, row(elems))
	}
	for _, s := range far() { // too far from 0, alone and beside what has another error
		for _, others := range texts("", "0", "1", "-1", "4097", "1 1 1", "4096 4096", "0 0 0 0") {
			l := strings.Fields(others)
			for i := range len(l) + 1 {
				elems := slices.Insert(slices.Clone(l), i, s)
				no(t, "Where", api.ErrDom, of(ints(len(elems)), elems...))
			}
		}
	}
}

func TestUnique(t *testing.T) { // P15.1
	for _, c := range [][2]string{
		{"", ""}, {"7", "7"}, {"1 2 3", "1 2 3"}, {"3 2 1", "3 2 1"}, {"5 5 5", "5"}, {"1 2 1", "1 2"}, {"2 1 1 2", "2 1"}, {"3 1 3 2 1 3", "3 1 2"}, {"1 -1 0 -1 1", "1 -1 0"}, {"10 1 0 1 10", "10 1 0"}, {"0 0 1 1 2 2", "0 1 2"}, {"12 1 2 1 12 21", "12 1 2 21"},
		{nines(100) + " " + nines(99) + "8 " + nines(99) + " " + nines(100), nines(100) + " " + nines(99) + "8 " + nines(99)}, {"-" + nines(100) + " " + nines(100) + " -" + nines(100), "-" + nines(100) + " " + nines(100)},
	} {
		tells(t, "Unique", row(c[1]), row(c[0]))
	}
	tells(t, "Unique", counted(ints(4096), -7), counted(ints(4096), -7))
	tells(t, "Unique", row("1 0"), of(ints(4096), slices.Repeat(texts("1", "0"), 2048)...))
}

func TestFind(t *testing.T) { // P15.2: once, often, and not at all, in the shape of what is looked for
	v := row("30 10 20 10 30 0 -10 10")
	for _, c := range [][2]string{{"30", "0"}, {"10", "1"}, {"20", "2"}, {"0", "5"}, {"-10", "6"}, {"1", "8"}, {"-30", "8"}, {"300", "8"}, {"3", "8"}, {nines(100), "8"}} {
		tells(t, "Find", only(c[1]), v, only(c[0]))
		tells(t, "Find", row(c[1]), v, row(c[0]))
		tells(t, "Find", grid(ints(1, 1, 1), c[1]), v, grid(ints(1, 1, 1), c[0]))
		tells(t, "Find", row("1 "+c[1]+" 1 8"), v, row("10 "+c[0]+" 10 99"))
		tells(t, "Find", grid(ints(2, 2), "8 1 "+c[1]+" 0"), v, grid(ints(2, 2), "99 10 "+c[0]+" 30"))
	}
	for _, c := range []struct {
		v       string
		w, want api.Val
	}{
		{"", only("0"), only("0")}, {"", row("0 1 0"), row("0 0 0")}, {"", row(""), row("")}, {"", grid(ints(2, 1), "5 6"), grid(ints(2, 1), "0 0")}, // nothing is there: 0 elements
		{"5", only("5"), only("0")}, {"5", only("6"), only("1")}, {"5 5 5", row("5 6 5"), row("0 3 0")}, {"1 2 3", row(""), row("")}, {"1 2 3", of(ints(0, 3)), of(ints(0, 3))}, {"1 2 3", of(ints(3, 0, 2)), of(ints(3, 0, 2))}, {"", of(ints(0, furthest, furthest)), of(ints(0, furthest, furthest))},
		{"1 2 3", grid(ints(2, 3), "3 2 1 0 1 2"), grid(ints(2, 3), "2 1 0 3 0 1")}, {"1 2 3", grid(ints(3, 2), "3 2 1 0 1 2"), grid(ints(3, 2), "2 1 0 3 0 1")}, {"1 2 3", grid(ints(1, 2, 3), "3 2 1 0 1 2"), grid(ints(1, 2, 3), "2 1 0 3 0 1")},
		{nines(99) + " " + nines(100) + " -" + nines(100), row("-" + nines(100) + " " + nines(99) + "8 " + nines(100) + " " + nines(99)), row("2 3 1 0")},
	} {
		tells(t, "Find", c.want, row(c.v), c.w)
	}
	n := 4096
	tells(t, "Find", counted(ints(64, 64), 0), counted(ints(n), -5), counted(ints(64, 64), -5))
	tells(t, "Find", filled(ints(16, 16, 16), "4096"), counted(ints(n), 0), filled(ints(16, 16, 16), "4096"))
	tells(t, "Find", filled(ints(n), "4095"), counted(ints(n), 0), filled(ints(n), "4095"))
	for _, s := range shapes() { // ErrRank, whatever is looked for
		for _, w := range []api.Val{only("1"), row("1 1"), row(""), of(ints(furthest, 0)), grid(ints(1, 1, 1), "1")} {
			if len(s) != 1 {
				no(t, "Find", api.ErrRank, filled(s, "1"), w)
			}
		}
	}
}

func TestIndex(t *testing.T) { // P15.2: arrays of each number of axes, by arrays of each number of axes
	v, m, cube := row("10 20 30 40"), grid(ints(3, 2), "1 2 3 4 5 6"), grid(ints(2, 2, 3), "1 2 3 4 5 6 7 8 9 10 11 12")
	for _, c := range []struct{ v, w, want api.Val }{
		{v, only("0"), only("10")}, {v, only("3"), only("40")}, {v, row("0"), row("10")}, {v, row("3 0 3 1"), row("40 10 40 20")}, {v, row(""), row("")}, {v, grid(ints(2, 3), "0 1 2 3 2 1"), grid(ints(2, 3), "10 20 30 40 30 20")}, {v, grid(ints(1, 2, 1), "2 0"), grid(ints(1, 2, 1), "30 10")}, {v, of(ints(0, 3)), of(ints(0, 3))}, {v, of(ints(2, 0, 5)), of(ints(2, 0, 5))}, {v, of(ints(furthest, 0)), of(ints(furthest, 0))},
		{m, only("0"), row("1 2")}, {m, only("2"), row("5 6")}, {m, row("1"), grid(ints(1, 2), "3 4")}, {m, row("2 0 2"), grid(ints(3, 2), "5 6 1 2 5 6")}, {m, row(""), of(ints(0, 2))}, {m, grid(ints(2, 2), "0 1 2 1"), grid(ints(2, 2, 2), "1 2 3 4 5 6 3 4")}, {m, of(ints(3, 0)), of(ints(3, 0, 2))}, {m, of(ints(0, furthest)), of(ints(0, furthest, 2))},
		{cube, only("1"), grid(ints(2, 3), "7 8 9 10 11 12")}, {cube, only("0"), grid(ints(2, 3), "1 2 3 4 5 6")}, {cube, row("1 0"), grid(ints(2, 2, 3), "7 8 9 10 11 12 1 2 3 4 5 6")}, {cube, row("1"), grid(ints(1, 2, 3), "7 8 9 10 11 12")}, {cube, row(""), of(ints(0, 2, 3))},
		{row("7"), only("0"), only("7")}, {row("7"), row("0 0 0"), row("7 7 7")}, {row("7"), grid(ints(2, 1, 2), "0 0 0 0"), grid(ints(2, 1, 2), "7 7 7 7")}, {grid(ints(1, 1), "7"), row("0 0"), grid(ints(2, 1), "7 7")}, {grid(ints(1, 1, 1), "7"), row("0"), grid(ints(1, 1, 1), "7")}, {grid(ints(1, 3), "7 8 9"), only("0"), row("7 8 9")},
		{row(""), row(""), row("")}, {row(""), of(ints(2, 0)), of(ints(2, 0))}, {of(ints(0, 3)), row(""), of(ints(0, 3))}, {of(ints(0, furthest, furthest)), row(""), of(ints(0, furthest, furthest))}, {of(ints(0, 4097)), of(ints(5, 0)), of(ints(5, 0, 4097))}, // there is no item, but its axes
		{of(ints(3, 0)), only("2"), row("")}, {of(ints(3, 0)), row("2 0"), of(ints(2, 0))}, {of(ints(3, 0, 5)), only("1"), of(ints(0, 5))}, {of(ints(3, 5, 0)), row("2 2 2 2"), of(ints(4, 5, 0))}, {of(ints(3, 0)), grid(ints(1, 2), "0 2"), of(ints(1, 2, 0))}, // items without an element
		{of(ints(furthest, 0)), row("1099511627775 0 4097"), of(ints(3, 0))}, {of(ints(furthest, furthest, 0)), only("1099511627775"), of(ints(furthest, 0))}, {of(ints(furthest, 0, furthest)), row("1099511627775"), of(ints(1, 0, furthest))},
	} {
		tells(t, "Index", c.want, c.v, c.w)
	}
	n := 4096
	tells(t, "Index", counted(ints(64, 64), 5), counted(ints(n), 5), counted(ints(64, 64), 0))
	tells(t, "Index", filled(ints(n), "5"), row("5"), filled(ints(n), "0"))
	tells(t, "Index", counted(ints(16, 16), 3840), counted(ints(16, 16, 16), 0), only("15"))
	tells(t, "Index", counted(ints(16, 16, 16), 0), counted(ints(16, 16, 16), 0), counted(ints(16), 0))
	tells(t, "Index", counted(ints(1, 4096), 7), counted(ints(1, 4096), 7), row("0"))
	tells(t, "Index", counted(ints(4096, 1), 7), counted(ints(4096, 1), 7), counted(ints(4096), 0))
}

func TestErrorsOfIndex(t *testing.T) { // P15.2, R1: each one, and those that are named first
	for _, elem := range append(far(), "0", "1", "-1", "4097") { // no axis, whatever it is indexed by
		for _, s := range [][]int{nil, ints(1), ints(3), ints(2, 2), ints(1, 1, 1), ints(0), ints(furthest, 0)} {
			no(t, "Index", api.ErrRank, only("7"), filled(s, elem))
		}
	}
	for _, s := range shapes() {
		if len(s) == 0 {
			continue
		}
		v, many := counted(s, 0), s[0]
		for _, elem := range far() { // ahead of ErrIndex, and of too many axes
			no(t, "Index", api.ErrDom, v, only(elem))
			no(t, "Index", api.ErrDom, v, row("-1 "+elem))
			no(t, "Index", api.ErrDom, v, row(elem+" -1"))
			no(t, "Index", api.ErrDom, v, row(strconv.Itoa(many)+" "+elem))
			no(t, "Index", api.ErrDom, v, grid(ints(1, 2, 1), "0 "+elem))
			no(t, "Index", api.ErrDom, v, grid(ints(1, 2, 1), elem+" -1"))
		}
		for _, n := range ints(-1, -2, -many, -4096, -furthest, many, many+1, 2*many, many+(1<<32), furthest) {
			if n >= 0 && n < many || n > furthest {
				continue
			}
			elem := strconv.Itoa(n)
			no(t, "Index", api.ErrIndex, v, only(elem))
			no(t, "Index", api.ErrIndex, v, row(elem))
			no(t, "Index", api.ErrIndex, v, row("0 "+elem))
			no(t, "Index", api.ErrIndex, v, row(elem+" 0"))
			no(t, "Index", api.ErrIndex, v, grid(ints(1, 2, 1), "0 "+elem)) // ahead of too many axes
			no(t, "Index", api.ErrIndex, v, of(ints(4096), append(slices.Repeat(texts("0"), 4095), elem)...))
		}
	}
	for _, c := range []struct {
		v, w []int
		want api.Errno
	}{
		{ints(2, 3), ints(1, 1, 1), api.ErrRank}, {ints(1, 1), ints(2, 2, 2), api.ErrRank}, {ints(2, 2, 2), ints(1, 1), api.ErrRank}, {ints(1, 1, 1), ints(1, 1, 1), api.ErrRank}, // more than three axes together
		{ints(2, 3), ints(0, 1, 1), api.ErrRank}, {ints(0, 3), ints(1, 1, 0), api.ErrRank}, {ints(2, 0), ints(1, 1, 1), api.ErrRank}, {ints(3, 0, 2), ints(2, 2), api.ErrRank}, {ints(0, 0, 0), ints(0, 0, 0), api.ErrRank}, {ints(furthest, 0, furthest), ints(furthest, 0), api.ErrRank}, // without an element, too
		{ints(64, 64), ints(16, 16, 16), api.ErrRank}, {ints(16, 16, 16), ints(64, 64), api.ErrRank}, // ahead of too many elements
		{ints(1, 2), ints(2049), api.ErrBig}, {ints(1, 4096), ints(2), api.ErrBig}, {ints(64, 64), ints(65), api.ErrBig}, {ints(64, 64), ints(64, 2), api.ErrBig}, {ints(16, 16, 16), ints(17), api.ErrBig}, {ints(1, 1, 4096), ints(2), api.ErrBig}, {ints(1, 3, 455), ints(4), api.ErrBig}, {ints(1, 4096), ints(4096), api.ErrBig}, {ints(1, 4096), ints(64, 64), api.ErrBig},
	} {
		no(t, "Index", c.want, counted(c.v, 0), filled(c.w, "0"))
	}
	tells(t, "Index", filled(ints(2048, 2), "5"), filled(ints(1, 2), "5"), filled(ints(2048), "0")) // just as many as there may be
	tells(t, "Index", filled(ints(3, 3, 455), "5"), filled(ints(1, 3, 455), "5"), filled(ints(3), "0"))
}

func TestAmend(t *testing.T) { // P15.3
	v := row("10 20 30 40")
	for _, c := range []struct{ v, at, w, want api.Val }{
		{v, only("0"), only("9"), row("9 20 30 40")}, {v, only("3"), only("-9"), row("10 20 30 -9")}, {v, only("1"), only("20"), v}, {row("7"), only("0"), only("8"), row("8")}, {v, only("2"), only(nines(100)), row("10 20 " + nines(100) + " 40")}, // no axis
		{v, row("2"), only("9"), row("10 20 9 40")}, {v, row("0 1 2 3"), only("9"), row("9 9 9 9")}, {v, row("3 1"), only("9"), row("10 9 30 9")}, {v, row("1 1 1"), only("9"), row("10 9 30 40")}, {v, row(""), only("9"), v}, {row(""), row(""), only("9"), row("")}, // the only one, at all of them
		{v, row("2"), row("9"), row("10 20 9 40")}, {v, row("3 1"), row("8 9"), row("10 9 30 8")}, {v, row("0 1 2 3"), row("4 3 2 1"), row("4 3 2 1")}, {v, row("3 2 1 0"), row("4 3 2 1"), row("1 2 3 4")}, {v, row("2 0 2 0"), row("1 2 3 4"), row("4 20 3 40")}, // each at its place
		{v, row("1 1"), row("8 9"), row("10 9 30 40")}, {v, row("1 1"), row("9 8"), row("10 8 30 40")}, {v, row("0 0 0 0 0"), row("1 2 3 4 5"), row("5 20 30 40")}, {v, row("1 2 1 2 1"), row("1 2 3 4 5"), row("10 5 4 40")}, {v, row("1 1"), row("9 20"), v}, // the same place again: the last one stays
		{v, row(""), row(""), v}, {row(""), row(""), row(""), row("")}, // no place
	} {
		tells(t, "Amend", c.want, c.v, c.at, c.w)
	}
	n := 4096
	all := counted(ints(n), 0)
	turned := of(ints(n), slices.Clone(all.Elems)...)
	slices.Reverse(turned.Elems)
	tells(t, "Amend", turned, filled(ints(n), "-1"), turned, all)
	tells(t, "Amend", filled(ints(n), "-1"), all, all, only("-1"))
	tells(t, "Amend", of(ints(n), append(slices.Clone(all.Elems[:4095]), "-1")...), all, only("4095"), only("-1"))
	tells(t, "Amend", row("4095"), row("7"), filled(ints(n), "0"), all)
}

func TestErrorsOfAmend(t *testing.T) { // P15.3, R1: each one, and those that are named first
	others := []api.Val{only("9"), row("9"), row("8 9"), row(""), grid(ints(1, 1), "9"), of(ints(2, 0)), grid(ints(1, 1, 1), "9")}
	for _, s := range shapes() {
		for _, w := range others {
			for _, places := range append(others, only("0"), row("0"), only("-1"), only(nines(100)), row(nines(100)+" 0")) {
				if len(s) != 1 { // it isn't a vector, whatever the others are
					no(t, "Amend", api.ErrRank, filled(s, "1"), places, w)
				}
			}
			if len(s) > 1 { // nor are the places, whatever numbers they are
				for _, elem := range texts("0", "-1", "9", nines(100)) {
					no(t, "Amend", api.ErrRank, row("1 2 3"), filled(s, elem), w)
					no(t, "Amend", api.ErrRank, row(""), filled(s, elem), w)
				}
			}
		}
	}
	v := row("10 20 30 40")
	for _, w := range others { // ahead of ErrShape
		for _, elem := range far() { // ahead of ErrIndex, too
			for _, places := range texts(elem, "0 "+elem, elem+" 0", "-1 "+elem, elem+" -1", "4 "+elem, elem+" 4") {
				no(t, "Amend", api.ErrDom, v, row(places), w)
				no(t, "Amend", api.ErrDom, row(""), row(places), w)
			}
			no(t, "Amend", api.ErrDom, v, only(elem), w)
		}
		for _, elem := range texts("-1", "-2", "-4", "-1099511627776", "4", "5", "8", "4294967296", "4294967297", "1099511627776") {
			for _, places := range texts(elem, "0 "+elem, elem+" 0", elem+" "+elem, "0 1 2 3 "+elem) {
				no(t, "Amend", api.ErrIndex, v, row(places), w)
			}
			no(t, "Amend", api.ErrIndex, v, only(elem), w)
			no(t, "Amend", api.ErrIndex, row(""), only(elem), w)
		}
		no(t, "Amend", api.ErrIndex, row(""), only("0"), w)
		no(t, "Amend", api.ErrIndex, row(""), row("0"), w)
		no(t, "Amend", api.ErrIndex, row("7"), row("0 1"), w)
	}
	for _, c := range []struct {
		places api.Val
		w      []int
	}{
		{only("0"), ints(1)}, {only("0"), ints(0)}, {only("0"), ints(1, 1)}, {only("0"), ints(1, 1, 1)}, {only("0"), ints(2)},
		{row("0"), ints(0)}, {row("0"), ints(2)}, {row("0"), ints(1, 1)}, {row("0"), ints(1, 1, 1)}, {row("0 1"), ints(1)}, {row("0 1"), ints(3)}, {row("0 1"), ints(1, 2)}, {row("0 1"), ints(2, 1)}, {row("0 1"), ints(1, 1, 2)}, {row("0 1 2 3"), ints(2, 2)}, {row("0 1"), ints(2, 0)}, {row("0 1"), ints(0, 2)}, {row("0 0"), ints(4096)},
		{row(""), ints(1)}, {row(""), ints(0, 0)}, {row(""), ints(0, 3)}, {row(""), ints(3, 0)}, {row(""), ints(0, furthest)}, {row(""), ints(0, 0, 0)}, {row(""), ints(1, 1)},
	} {
		no(t, "Amend", api.ErrShape, v, c.places, counted(c.w, 1))
	}
}

func TestAllShapes(t *testing.T) { // P15.1 to P15.3: each array, and each with each, both ways round
	for _, v := range good() {
		for _, call := range ones() {
			hold(t, call, v)
		}
	}
	all := slices.Concat(small(), hollow())
	for _, s := range all {
		for _, r := range all {
			v, w := counted(s, 0), filled(r, "0")
			hold(t, "Find", v, counted(r, -2))
			hold(t, "Index", v, w)
			hold(t, "Index", v, counted(r, 0))
			hold(t, "Amend", v, w, only("5"))
			hold(t, "Amend", counted(ints(5), 7), w, v)
			hold(t, "Amend", v, w, counted(r, 3))
		}
	}
	r := random(3)
	for _, s := range full() {
		v := r.array(s)
		for _, other := range append(shapes(), ints(4095), ints(63, 64)) {
			hold(t, "Find", v, counted(other, -20))
			hold(t, "Index", v, filled(other, "0"))
			hold(t, "Index", counted(other, 5), counted(s, 0))
			hold(t, "Amend", counted(other, 5), counted(s, 0), v)
			hold(t, "Amend", v, counted(other, 0), counted(other, 9))
		}
	}
}

func TestAnyNumbers(t *testing.T) { // P15.2, P15.3: places that there are, and some that there aren't
	r := random(21)
	all := small()
	for range 6000 {
		v := r.array(all[r.below(len(all))])
		w := r.array(all[r.below(len(all))])
		for i := range w.Elems {
			if r.below(12) > 0 {
				w.Elems[i] = strconv.Itoa(r.below(4) - r.below(40)/39)
			}
		}
		hold(t, "Find", v, w)
		hold(t, "Index", v, w)
		x := r.upTo(1+r.below(9), 30)
		at := r.upTo(r.below(12), len(x.Elems)+r.below(30)/29)
		hold(t, "Find", x, w)
		hold(t, "Find", x, at)
		hold(t, "Amend", x, at, r.array(at.Shape))
		hold(t, "Amend", x, at, r.array(nil))
		hold(t, "Amend", x, at, w)
		hold(t, "Amend", v, at, w)
		hold(t, "Amend", x, w, v)
	}
}

func TestMayNotBe(t *testing.T) { // R1, R5: ErrArg ahead of all else, as each of the arrays, and as several
	fine := []api.Val{only("0"), only("7"), only("-1"), only(nines(100)), row(""), row("0"), row("1 2"), row("-1 4097"), row(nines(100)), grid(ints(2, 3), "1 2 3 4 5 6"), of(ints(3, 0)), of(ints(furthest, 0)), grid(ints(1, 1, 1), "0"), filled(ints(4096), "1")}
	for i, v := range bad() {
		for _, call := range ones() {
			no(t, call, api.ErrArg, v)
		}
		for _, call := range twos() {
			no(t, call, api.ErrArg, v, v)
			no(t, call, api.ErrArg, v, bad()[(7*i+3)%len(bad())])
			for _, w := range fine { // also beside one that has another error
				no(t, call, api.ErrArg, v, w)
				no(t, call, api.ErrArg, w, v)
			}
		}
		no(t, "Amend", api.ErrArg, v, v, v)
		for j, w := range fine {
			u := fine[(i+j)%len(fine)]
			for _, l := range [][3]api.Val{{v, w, u}, {w, v, u}, {w, u, v}, {v, v, w}, {v, w, v}, {w, v, v}} {
				no(t, "Amend", api.ErrArg, l[:]...)
			}
		}
	}
}

func TestEachElementIsLookedAt(t *testing.T) { // R1: what is no number, at each place of each array
	for _, s := range [][]int{nil, ints(1), ints(5), ints(2, 3), ints(2, 2, 2)} {
		for i := range product(s) {
			for _, x := range noNumbers() {
				v := counted(s, 0)
				v.Elems[i] = x
				for _, call := range ones() {
					no(t, call, api.ErrArg, v)
				}
				for _, call := range twos() {
					no(t, call, api.ErrArg, v, row("0"))
					no(t, call, api.ErrArg, row("0 1 2 3 4 5 6 7"), v)
					no(t, call, api.ErrArg, v, row("")) // though none of it is told
				}
				no(t, "Amend", api.ErrArg, v, row(""), row(""))
				no(t, "Amend", api.ErrArg, v, only("0"), only("0"))
				no(t, "Amend", api.ErrArg, row("0 1 2 3 4 5 6 7"), v, only("0"))
				no(t, "Amend", api.ErrArg, row("0 1 2 3 4 5 6 7"), counted(s, 0), v)
				no(t, "Amend", api.ErrArg, row("0 1 2 3 4 5 6 7"), row(""), v)
			}
		}
	}
}

// eachOnce tells whether numbers are those from 0 to below how many there are, each once.
func eachOnce(l []int) bool {
	l = slices.Sorted(slices.Values(l))
	for i, n := range l {
		if n != i {
			return false
		}
	}
	return true
}

func TestIndexedByItsOrder(t *testing.T) { // P15.4: up it rises, down it falls, and alike ones stay in turn
	for _, v := range vectors() {
		for _, c := range []struct {
			call string
			side int
		}{{"Up", 1}, {"Down", -1}} {
			order := sure(t, c.call, v)
			places, ok := toldAll(order)
			if !ok || len(places) != len(v.Elems) || !eachOnce(places) {
				t.Fatalf("%s of %s: %s", c.call, short(v), short(order))
			}
			got := sure(t, "Index", v, order)
			for i := range max(len(got.Elems)-1, 0) {
				turn := c.side * num.Cmp(got.Elems[i], got.Elems[i+1])
				if turn != c.side*whole(got.Elems[i]).Cmp(whole(got.Elems[i+1])) || turn > 0 || turn == 0 && places[i] > places[i+1] {
					t.Fatalf("%s, by its %s: %q ahead of %q, of places %d and %d", short(v), c.call, got.Elems[i], got.Elems[i+1], places[i], places[i+1])
				}
			}
		}
	}
}

func TestWhatIsFoundIsThere(t *testing.T) { // P15.4: and nothing ahead of it is it
	r := random(4)
	for _, v := range vectors() {
		w := r.shuffled(v)
		if len(w.Elems) > 2 {
			w.Elems[0], w.Elems[1] = "123456789", "-987654321"
		}
		for i, place := range sure(t, "Find", v, w).Elems {
			p, ok := told(place)
			if !ok || p < 0 || p > len(v.Elems) || slices.Contains(v.Elems[:p], w.Elems[i]) || p < len(v.Elems) && v.Elems[p] != w.Elems[i] {
				t.Fatalf("%q in %s: at %q", w.Elems[i], short(v), place)
			}
		}
		unique := sure(t, "Unique", v)
		firsts := sure(t, "Find", v, unique)
		if !like(sure(t, "Index", v, firsts), unique) || !like(sure(t, "Index", firsts, sure(t, "Up", firsts)), firsts) || !like(sure(t, "Index", unique, sure(t, "Find", unique, v)), v) { // each is first there, in turn, and each is one of them
			t.Errorf("%s: %s, first at %s", short(v), short(unique), short(firsts))
		}
	}
}

func TestWhatIsAmendedIsThere(t *testing.T) { // P15.4: and nothing else is otherwise
	r := random(6)
	for _, v := range vectors() {
		n := len(v.Elems)
		for _, many := range ints(0, 1, n/2, n, 2*n) {
			if n == 0 || many > 4096 {
				continue
			}
			at := r.upTo(many, n)
			w := counted(at.Shape, 1000)
			got := sure(t, "Amend", v, at, w)
			last := map[string]string{}
			for i, place := range at.Elems {
				last[place] = w.Elems[i]
			}
			for i, elem := range got.Elems {
				want, put := last[strconv.Itoa(i)]
				if !put {
					want = v.Elems[i]
				}
				if elem != want {
					t.Fatalf("%s, at %s, amended by %s: %q at %d", short(v), short(at), short(w), elem, i)
				}
			}
			once := sure(t, "Unique", at)
			if there := sure(t, "Index", sure(t, "Amend", v, once, counted(once.Shape, 5)), once); !like(there, counted(once.Shape, 5)) {
				t.Errorf("%s, at %s: %s", short(v), short(once), short(there))
			}
			if same := sure(t, "Amend", v, at, sure(t, "Index", v, at)); !like(same, v) {
				t.Errorf("%s, amended by what is there: %s", short(v), short(same))
			}
		}
	}
}

func TestWhereIsThere(t *testing.T) { // P15.1: each place as often as its element says, and the places rise
	for _, v := range vectors() {
		got, err := ask("Where", v)
		if err != api.OK {
			continue
		}
		often := make([]int, len(v.Elems))
		places, ok := toldAll(got)
		for _, p := range places {
			often[p]++
		}
		if !ok || !slices.IsSorted(places) || !like(numbers(often...), v) {
			t.Errorf("Where of %s: %s", short(v), short(got))
		}
	}
}

func TestNilAndEmpty(t *testing.T) { // R2: of shapes, and of elements
	for _, s := range [][]int{nil, {}, make([]int, 0, 5)} {
		v := of(s, "2")
		tells(t, "Find", only("1"), row("5 2"), v)
		tells(t, "Index", only("7"), row("5 6 7"), v)
		tells(t, "Amend", row("5 6 2"), row("5 6 7"), v, v)
		tells(t, "Amend", row("2 6 2"), row("5 6 7"), row("0 2"), v)
		no(t, "Index", api.ErrRank, v, v)
		no(t, "Find", api.ErrRank, v, v)
		no(t, "Amend", api.ErrRank, v, v, v)
		for _, call := range ones() {
			no(t, call, api.ErrRank, v)
		}
		for _, elems := range [][]string{nil, {}, make([]string, 0, 5)} {
			for _, call := range ones() {
				no(t, call, api.ErrArg, of(s, elems...))
				tells(t, call, row(""), of(ints(0), elems...))
			}
			none := of(ints(0), elems...)
			tells(t, "Find", row(""), none, none)
			tells(t, "Find", only("0"), none, v)
			tells(t, "Find", of(ints(0, 3)), none, of(ints(0, 3), elems...))
			tells(t, "Index", row(""), none, none)
			tells(t, "Index", row(""), row("5 6 7"), none)
			tells(t, "Index", row(""), of(ints(3, 0), elems...), v)
			no(t, "Index", api.ErrIndex, none, v)
			tells(t, "Amend", row(""), none, none, none)
			tells(t, "Amend", row("5 6"), row("5 6"), none, v)
			no(t, "Amend", api.ErrIndex, none, v, none)
			no(t, "Amend", api.ErrShape, row("5 6 7"), v, none)
		}
	}
}

// spoil writes all over an array, also behind its lists' ends.
func spoil(v api.Val) {
	axes, elems := v.Shape[:cap(v.Shape)], v.Elems[:cap(v.Elems)]
	for i := range axes {
		axes[i] = -77
	}
	for i := range elems {
		elems[i] = "spoilt"
	}
}

// copied is an array of its own, with room behind its lists.
func copied(v api.Val) api.Val {
	return of(append(make([]int, 0, len(v.Shape)+4), v.Shape...), append(make([]string, 0, len(v.Elems)+4), v.Elems...)...)
}

// room is an array with all that is behind its lists.
func room(v api.Val) api.Val {
	return of(v.Shape[:cap(v.Shape)], v.Elems[:cap(v.Elems)]...)
}

// some are arrays by threes of which something comes out of one call or more, or of which one may not be, or has an error.
func some() [][3]api.Val {
	l := [][3]api.Val{
		{row("30 10 20"), row("2 0"), row("7 8")}, {row("0 1 2"), row("0 1 2"), row("2 1 0")}, {row("3 0 2 1"), only("2"), only("-9")}, {row("1 1 1"), row("1 1"), only("5")}, {row("1 1 1"), row(""), row("")}, {row(""), row(""), only("5")}, {row("2 0 1"), of(ints(1), "x"), only("5")}, {of(ints(-1)), row("0"), row("1")}, {row("5 6"), row("1"), of(ints(1))}, {row("5 6"), row("2"), row("1")}, {row("5 6"), row("0 1"), row("1")}, {row(nines(100)), row("0"), row("-" + nines(100))},
		{grid(ints(3, 2), "1 2 3 4 5 6"), row("2 0"), grid(ints(2, 1), "0 1")}, {grid(ints(2, 2, 2), "1 2 3 4 5 6 7 8"), row("1"), only("0")}, {of(ints(3, 0)), row("2 1"), of(ints(0, 3))}, {of(ints(furthest, 0)), only("4097"), row("0")}, {of(ints(0, furthest)), row(""), of(ints(0, 2))}, {grid(ints(1, 1, 1), "0"), grid(ints(1, 1, 1), "0"), row("0 0")}, {filled(ints(70), "1"), counted(ints(70), 0), counted(ints(70), 5)},
	}
	r := random(11)
	for n := range 9 {
		l = append(l, [3]api.Val{r.upTo(n+1, 5), r.upTo(n, n+1), r.array(ints(n))}, [3]api.Val{r.array(ints(n)), r.array(ints(n)), r.array(nil)})
	}
	return l
}

// answers are those of all calls to three arrays, each in each place, and the same one in all.
func answers(l [3]api.Val) (told []api.Val, errs []api.Errno) {
	add := func(call string, l ...api.Val) {
		v, err := ask(call, l...)
		told, errs = append(told, v), append(errs, err)
	}
	for i, v := range l {
		for _, call := range ones() {
			add(call, v)
		}
		for j, w := range l {
			for _, call := range twos() {
				add(call, v, w)
			}
			for k, u := range l {
				if i != j && j != k || i == j && j == k {
					add("Amend", v, w, u)
				}
			}
		}
	}
	return told, errs
}

// copiedAll are arrays of their own.
func copiedAll(l [3]api.Val) [3]api.Val { return [3]api.Val{copied(l[0]), copied(l[1]), copied(l[2])} }

func TestWhatIsHandedInStays(t *testing.T) { // R3: also behind its lists' ends, and if it is handed in twice, and what is told is written over
	for _, l := range some() {
		own := copiedAll(l)
		kept := [3]api.Val{copied(room(own[0])), copied(room(own[1])), copied(room(own[2]))}
		all, _ := answers(own)
		for i := -1; i < len(all); i++ { // ahead of what is written over, and behind each
			if i >= 0 {
				spoil(all[i])
			}
			for j, v := range own {
				if !like(room(v), kept[j]) {
					t.Fatalf("%s: the array %d is %s behind answer %d", short(l[:]...), j, short(v), i)
				}
			}
		}
	}
}

func TestWhatIsToldStays(t *testing.T) { // R3: what was handed in is written over then, and so is what is told once more, and what else was told
	for _, l := range some() {
		own := copiedAll(l)
		all, _ := answers(own)
		var kept []api.Val
		for _, told := range all {
			kept = append(kept, copied(told))
		}
		again, _ := answers(own)
		for _, told := range again {
			spoil(told)
		}
		for _, v := range own {
			spoil(v)
		}
		for i, told := range all {
			if !like(told, kept[i]) {
				t.Errorf("answer %d to %s was %s, and is %s", i, short(l[:]...), short(kept[i]), short(told))
			}
			spoil(told)
		}
	}
}

func TestAnswersHangOnNothingElse(t *testing.T) { // R4: asked again in reverse, from four sides at once
	var first [][]api.Val
	var firstErrs [][]api.Errno
	for _, l := range some() {
		told, errs := answers(l)
		first, firstErrs = append(first, told), append(firstErrs, errs)
	}
	var all sync.WaitGroup
	for range 4 {
		all.Go(func() {
			for i, l := range slices.Backward(some()) {
				told, errs := answers(l)
				if !slices.EqualFunc(told, first[i], like) || !slices.Equal(errs, firstErrs[i]) {
					t.Errorf("%s: %v, %v, then %v, %v", short(l[:]...), first[i], firstErrs[i], told, errs)
				}
			}
		})
	}
	all.Wait()
}

func TestNothingBesideErrors(t *testing.T) { // R1: an answer is an array that may be, or an error alone
	r := random(2)
	l := append(slices.Concat(good(), bad(), vectors()), row("2 3"), row("4 0"), only("3"), only("-2"), only("4"))
	for _, v := range l {
		told, errs := answers([3]api.Val{v, l[r.below(len(l))], r.upTo(3, 4)})
		for i, x := range told {
			if val.May(x) != (errs[i] == api.OK) || errs[i] != api.OK && !like(x, zero) {
				t.Errorf("answer %d to %s and others: %s, %d", i, short(v), short(x), errs[i])
			}
		}
	}
}

func TestManyLongOnes(t *testing.T) { // P15.1: MaxCells numbers of a hundred figures, any ones
	r := random(13)
	for range 2 {
		v := of(ints(4096))
		for range 4096 {
			v.Elems = append(v.Elems, []string{"", "-"}[r.below(2)]+nines(96-r.below(2))+strconv.Itoa(1000+r.below(3000)))
		}
		hold(t, "Up", v)
		hold(t, "Down", v)
	}
}
