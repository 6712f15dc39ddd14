package mould_test

import (
	"math"
	"slices"
	"strconv"
	"strings"
	"sync"
	"testing"

	"reredos/api"
	"reredos/mould"
	"reredos/shape"
	"reredos/val"
)

// The calls, with the exact signatures that the chapter lists.
var (
	_ func(v api.Val) (api.Val, api.Errno)    = mould.Iota
	_ func(v api.Val) (api.Val, api.Errno)    = mould.Tally
	_ func(v api.Val) (api.Val, api.Errno)    = mould.Shape
	_ func(v api.Val) (api.Val, api.Errno)    = mould.Ravel
	_ func(v api.Val) (api.Val, api.Errno)    = mould.Reverse
	_ func(v api.Val) (api.Val, api.Errno)    = mould.Flip
	_ func(v, w api.Val) (api.Val, api.Errno) = mould.Reshape
	_ func(v, w api.Val) (api.Val, api.Errno) = mould.Take
	_ func(v, w api.Val) (api.Val, api.Errno) = mould.Drop
	_ func(v, w api.Val) (api.Val, api.Errno) = mould.Join
)

// ones are the calls of one array.
func ones() []string { return texts("Iota", "Tally", "Shape", "Ravel", "Reverse", "Flip") }

// twos are the calls of two.
func twos() []string { return texts("Reshape", "Take", "Drop", "Join") }

// askOne makes a call of one array, by its name.
func askOne(call string, v api.Val) (api.Val, api.Errno) {
	return map[string]func(v api.Val) (api.Val, api.Errno){"Iota": mould.Iota, "Tally": mould.Tally, "Shape": mould.Shape, "Ravel": mould.Ravel, "Reverse": mould.Reverse, "Flip": mould.Flip}[call](v)
}

// ask makes one of two.
func ask(call string, v, w api.Val) (api.Val, api.Errno) {
	return map[string]func(v, w api.Val) (api.Val, api.Errno){"Reshape": mould.Reshape, "Take": mould.Take, "Drop": mould.Drop, "Join": mould.Join}[call](v, w)
}

// one asks for what comes out of an array; what it is may be, whenever it is one.
func one(t *testing.T, call string, v, want api.Val, wantErr api.Errno) {
	t.Helper()
	got, err := askOne(call, v)
	if !like(got, want) || err != wantErr || err == api.OK && !val.May(got) {
		t.Errorf("%s %s: %s, %d; not %s, %d", call, short(v), short(got), err, short(want), wantErr)
	}
}

// noOne asks so of one of which nothing but an error is told.
func noOne(t *testing.T, call string, v api.Val, want api.Errno) {
	t.Helper()
	one(t, call, v, zero, want)
}

// two asks for what comes out of two arrays.
func two(t *testing.T, call string, v, w, want api.Val, wantErr api.Errno) {
	t.Helper()
	got, err := ask(call, v, w)
	if !like(got, want) || err != wantErr || err == api.OK && !val.May(got) {
		t.Errorf("%s %s and %s: %s, %d; not %s, %d", call, short(v), short(w), short(got), err, short(want), wantErr)
	}
}

// no asks so of two of which nothing but an error is told.
func no(t *testing.T, call string, v, w api.Val, want api.Errno) {
	t.Helper()
	two(t, call, v, w, zero, want)
}

// holdOne holds each call of an array that may be against the chapter's words.
func holdOne(t *testing.T, v api.Val) {
	t.Helper()
	for _, call := range ones() {
		want, err := saidOfOne(call, v)
		one(t, call, v, want, err)
	}
}

// hold holds each call of two so, both ways round.
func hold(t *testing.T, v, w api.Val) {
	t.Helper()
	for _, call := range twos() {
		want, err := said(call, v, w)
		two(t, call, v, w, want, err)
		want, err = said(call, w, v)
		two(t, call, w, v, want, err)
	}
}

// sure is what comes out of two arrays without an error.
func sure(t *testing.T, call string, v, w api.Val) api.Val {
	t.Helper()
	got, err := ask(call, v, w)
	if err != api.OK {
		t.Fatalf("%s %s and %s: %d", call, short(v), short(w), err)
	}
	return got
}

// sureOne is what comes out of one.
func sureOne(t *testing.T, call string, v api.Val) api.Val {
	t.Helper()
	got, err := askOne(call, v)
	if err != api.OK {
		t.Fatalf("%s %s: %d", call, short(v), err)
	}
	return got
}

func TestExample(t *testing.T) { // the chapter's
	v := sure(t, "Reshape", row("2 3"), sureOne(t, "Iota", only("6")))
	for i, want := range []api.Val{row("0 1 2"), row("3 4 5")} {
		if x, ok := val.Item(v, i); !ok || !like(x, want) {
			t.Errorf("item %d of %s: %s", i, short(v), short(x))
		}
	}
	v = sureOne(t, "Flip", v)
	for i, want := range []api.Val{row("0 3"), row("1 4"), row("2 5")} {
		if x, ok := val.Item(v, i); !ok || !like(x, want) {
			t.Errorf("item %d of %s: %s", i, short(v), short(x))
		}
	}
}

func TestIota(t *testing.T) { // P14.1
	one(t, "Iota", only("0"), row(""), api.OK)
	one(t, "Iota", only("1"), row("0"), api.OK)
	one(t, "Iota", only("2"), row("0 1"), api.OK)
	one(t, "Iota", only("12"), row("0 1 2 3 4 5 6 7 8 9 10 11"), api.OK)
	for _, n := range ints(3, 99, 100, 101, 4095, 4096) {
		v := sureOne(t, "Iota", number(n))
		if len(v.Shape) != 1 || v.Shape[0] != n || !val.May(v) {
			t.Errorf("Iota %d: %s", n, short(v))
		}
		for i, s := range v.Elems {
			if s != strconv.Itoa(i) {
				t.Errorf("Iota %d: %q stands at %d", n, s, i)
			}
		}
	}
}

func TestIotaOfWhatHasNone(t *testing.T) { // P14.1, R1: each error, and those that are named first
	for _, n := range ints(4097, 4098, 5000, 1<<20, 1<<32, 1<<32+5, furthest-1, furthest) {
		noOne(t, "Iota", number(n), api.ErrBig)
	}
	for _, n := range ints(-1, -2, -4096, -4097, -1<<32, -furthest) {
		noOne(t, "Iota", number(n), api.ErrDom)
	}
	for _, s := range far() {
		noOne(t, "Iota", only(s), api.ErrDom) // val.Int's, also where it is above MaxCells
	}
	for _, s := range append(far(), "0", "1", "5", "-1", "4097", "1099511627776") { // an axis is told ahead of all that the number is
		noOne(t, "Iota", of(ints(1), s), api.ErrRank)
		noOne(t, "Iota", of(ints(1, 1), s), api.ErrRank)
		noOne(t, "Iota", of(ints(1, 1, 1), s), api.ErrRank)
		noOne(t, "Iota", of(ints(2), s, s), api.ErrRank)
		noOne(t, "Iota", of(ints(2), "3", s), api.ErrRank)
	}
	for _, s := range shapes() {
		if len(s) > 0 {
			noOne(t, "Iota", counted(s, 1), api.ErrRank)
		}
	}
}

func TestTallyShapeRavel(t *testing.T) { // P14.1
	for _, c := range []struct {
		v, tally, axes, elems api.Val
	}{
		{only("7"), only("1"), row(""), row("7")}, {only("-" + nines(100)), only("1"), row(""), row("-" + nines(100))},
		{row("7"), only("1"), row("1"), row("7")}, {row("7 8 9"), only("3"), row("3"), row("7 8 9")}, {row(""), only("0"), row("0"), row("")},
		{grid(ints(2, 3), "1 2 3 4 5 6"), only("2"), row("2 3"), row("1 2 3 4 5 6")}, {grid(ints(3, 2), "1 2 3 4 5 6"), only("3"), row("3 2"), row("1 2 3 4 5 6")}, {grid(ints(1, 1), "5"), only("1"), row("1 1"), row("5")}, {of(ints(3, 0)), only("3"), row("3 0"), row("")}, {of(ints(0, 3)), only("0"), row("0 3"), row("")},
		{grid(ints(2, 1, 3), "6 5 4 3 2 1"), only("2"), row("2 1 3"), row("6 5 4 3 2 1")}, {grid(ints(1, 2, 1), "6 5"), only("1"), row("1 2 1"), row("6 5")}, {of(ints(4, 0, 2)), only("4"), row("4 0 2"), row("")}, {of(ints(0, 0, 0)), only("0"), row("0 0 0"), row("")},
		{of(ints(furthest, 0, furthest)), only("1099511627776"), row("1099511627776 0 1099511627776"), row("")}, {of(ints(0, furthest)), only("0"), row("0 1099511627776"), row("")},
	} {
		one(t, "Tally", c.v, c.tally, api.OK)
		one(t, "Shape", c.v, c.axes, api.OK)
		one(t, "Ravel", c.v, c.elems, api.OK)
	}
	for _, s := range shapes() {
		v := counted(s, 5)
		if got := sureOne(t, "Tally", v); len(got.Shape) != 0 || got.Elems[0] != strconv.Itoa(val.Many(v)) {
			t.Errorf("Tally %s: %s", short(v), short(got))
		}
		if axes, err := val.All(sureOne(t, "Shape", v)); err != api.OK || !slices.Equal(axes, s) {
			t.Errorf("Shape %s: %v", short(v), axes)
		}
		if got := sureOne(t, "Ravel", v); !slices.Equal(got.Elems, v.Elems) || !slices.Equal(got.Shape, ints(len(v.Elems))) {
			t.Errorf("Ravel %s: %s", short(v), short(got))
		}
	}
}

func TestReverse(t *testing.T) { // P14.1
	for _, c := range [][2]api.Val{
		{only("7"), only("7")}, {row("7"), row("7")}, {row("7 8"), row("8 7")}, {row("1 2 3"), row("3 2 1")}, {row(""), row("")},
		{grid(ints(2, 3), "1 2 3 4 5 6"), grid(ints(2, 3), "4 5 6 1 2 3")}, {grid(ints(3, 2), "1 2 3 4 5 6"), grid(ints(3, 2), "5 6 3 4 1 2")}, {grid(ints(1, 6), "1 2 3 4 5 6"), grid(ints(1, 6), "1 2 3 4 5 6")}, {grid(ints(6, 1), "1 2 3 4 5 6"), grid(ints(6, 1), "6 5 4 3 2 1")},
		{grid(ints(2, 2, 2), "1 2 3 4 5 6 7 8"), grid(ints(2, 2, 2), "5 6 7 8 1 2 3 4")}, {grid(ints(3, 1, 2), "1 2 3 4 5 6"), grid(ints(3, 1, 2), "5 6 3 4 1 2")}, {grid(ints(1, 2, 3), "1 2 3 4 5 6"), grid(ints(1, 2, 3), "1 2 3 4 5 6")},
		{of(ints(3, 0)), of(ints(3, 0))}, {of(ints(0, 3)), of(ints(0, 3))}, {of(ints(2, 0, 3)), of(ints(2, 0, 3))}, {of(ints(furthest, 0)), of(ints(furthest, 0))}, {of(ints(furthest, 0, furthest)), of(ints(furthest, 0, furthest))},
	} {
		one(t, "Reverse", c[0], c[1], api.OK)
	}
	for _, s := range slices.Concat(small(), full()) {
		v := counted(s, 1)
		got := sureOne(t, "Reverse", v)
		for i := range val.Many(v) {
			x, ok := val.Item(got, i)
			want, wantOK := val.Item(v, val.Many(v)-1-i)
			if !ok || !wantOK || !like(x, want) {
				t.Errorf("item %d of %s, reversed: %s", i, short(v), short(x))
			}
		}
	}
}

func TestFlip(t *testing.T) { // P14.1
	for _, c := range [][2]api.Val{
		{only("7"), only("7")}, {row("7"), row("7")}, {row("1 2 3"), row("1 2 3")}, {row(""), row("")},
		{grid(ints(2, 3), "1 2 3 4 5 6"), grid(ints(3, 2), "1 4 2 5 3 6")}, {grid(ints(3, 2), "1 2 3 4 5 6"), grid(ints(2, 3), "1 3 5 2 4 6")}, {grid(ints(1, 3), "1 2 3"), grid(ints(3, 1), "1 2 3")}, {grid(ints(2, 2), "1 2 3 4"), grid(ints(2, 2), "1 3 2 4")},
		{grid(ints(2, 2, 2), "1 2 3 4 5 6 7 8"), grid(ints(2, 2, 2), "1 5 3 7 2 6 4 8")}, {grid(ints(1, 2, 3), "1 2 3 4 5 6"), grid(ints(3, 2, 1), "1 4 2 5 3 6")}, {grid(ints(2, 1, 3), "1 2 3 4 5 6"), grid(ints(3, 1, 2), "1 4 2 5 3 6")}, {grid(ints(2, 3, 1), "1 2 3 4 5 6"), grid(ints(1, 3, 2), "1 4 2 5 3 6")}, // the middle axis stays where it is
		{of(ints(3, 0)), of(ints(0, 3))}, {of(ints(0, 3)), of(ints(3, 0))}, {of(ints(1, 2, 0)), of(ints(0, 2, 1))}, {of(ints(2, 0, 3)), of(ints(3, 0, 2))}, {of(ints(furthest, 0)), of(ints(0, furthest))}, {of(ints(0, 4097, furthest)), of(ints(furthest, 4097, 0))},
	} {
		one(t, "Flip", c[0], c[1], api.OK)
	}
	for _, s := range slices.Concat(small(), full()) { // at each place
		v := counted(s, 1)
		got := sureOne(t, "Flip", v)
		for off, elem := range v.Elems {
			places, _ := shape.Place(v.Shape, off)
			slices.Reverse(places)
			to, ok := shape.Offset(got.Shape, places)
			if !ok || got.Elems[to] != elem {
				t.Fatalf("%s stands at %v in %s, flipped %s", elem, turned(places), short(v), short(got))
			}
		}
	}
}

func TestReshape(t *testing.T) { // P14.2
	six := row("1 2 3 4 5 6")
	for _, c := range []struct{ v, w, want api.Val }{
		{row(""), six, only("1")}, {row(""), only("7"), only("7")}, {row(""), grid(ints(1, 1, 1), "7"), only("7")}, // no axis: one element
		{only("4"), six, row("1 2 3 4")}, {only("6"), six, six}, {only("8"), six, row("1 2 3 4 5 6 1 2")}, {only("3"), only("7"), row("7 7 7")}, {only("1"), six, row("1")}, {only("0"), six, row("")}, {only("0"), row(""), row("")},
		{row("4"), six, row("1 2 3 4")}, {row("6"), six, six}, {row("13"), six, row("1 2 3 4 5 6 1 2 3 4 5 6 1")}, {row("1"), six, row("1")}, {row("0"), six, row("")}, {row("0"), row(""), row("")}, // of one axis, the same
		{row("2 3"), six, grid(ints(2, 3), "1 2 3 4 5 6")}, {row("3 2"), six, grid(ints(3, 2), "1 2 3 4 5 6")}, {row("2 2"), six, grid(ints(2, 2), "1 2 3 4")}, {row("2 2"), row("1 2 3"), grid(ints(2, 2), "1 2 3 1")}, {row("1 1"), six, grid(ints(1, 1), "1")}, {row("2 3"), only("-5"), grid(ints(2, 3), "-5 -5 -5 -5 -5 -5")},
		{row("2 1 2"), six, grid(ints(2, 1, 2), "1 2 3 4")}, {row("2 2 2"), row("1 2 3"), grid(ints(2, 2, 2), "1 2 3 1 2 3 1 2")}, {row("1 2 3"), grid(ints(3, 2), "1 2 3 4 5 6"), grid(ints(1, 2, 3), "1 2 3 4 5 6")},
		{row("3 0"), six, of(ints(3, 0))}, {row("0 3"), row(""), of(ints(0, 3))}, {row("2 0 3"), of(ints(5, 0)), of(ints(2, 0, 3))}, {row("0 0 0"), only("1"), of(ints(0, 0, 0))}, {row("1099511627776 0"), six, of(ints(furthest, 0))}, {row("0 1099511627776 1099511627776"), row(""), of(ints(0, furthest, furthest))},
	} {
		two(t, "Reshape", c.v, c.w, c.want, api.OK)
	}
	for _, n := range ints(1, 2, 3, 5, 64, 100, 4095, 4096) { // fewer, as many, more, many times as many
		w := counted(ints(n), 1)
		for _, s := range slices.Concat(small(), full()) {
			got := sure(t, "Reshape", numbers(s...), w)
			if !slices.Equal(got.Shape, s) || len(got.Elems) != product(s) {
				t.Fatalf("%v of %s: %s", s, short(w), short(got))
			}
			for i, elem := range got.Elems {
				if elem != w.Elems[i%n] {
					t.Fatalf("%v of %s: %q stands at %d", s, short(w), elem, i)
				}
			}
		}
	}
}

func TestReshapeOfWhatMayNotBe(t *testing.T) { // P14.2, R1: each error, and those that are named first
	six, none := row("1 2 3 4 5 6"), row("")
	for _, w := range []api.Val{six, only("7"), none, of(ints(3, 0)), grid(ints(1, 2, 3), "1 2 3 4 5 6")} {
		for _, s := range [][]int{ints(1, 1), ints(1, 2), ints(2, 1), ints(0, 1), ints(2, 0), ints(1, 1, 1), ints(1, 2, 1), ints(0, 0, 3), ints(furthest, 0)} {
			for _, elem := range texts("1", "0", "-1", "4097", nines(100)) { // two axes or more, whatever the numbers
				no(t, "Reshape", filled(s, elem), w, api.ErrRank)
			}
		}
		for _, s := range far() { // too far, at each place, alone and beside what shape.Size would tell
			no(t, "Reshape", only(s), w, api.ErrDom)
			for _, others := range texts("", "0", "1", "-1", "4097", "1 1", "0 0", "1 1 1", "-1 -1 -1", "4097 4097", "1 1 1 1 1") {
				l := strings.Fields(others)
				for i := range len(l) + 1 {
					elems := slices.Insert(slices.Clone(l), i, s)
					no(t, "Reshape", of(ints(len(elems)), elems...), w, api.ErrDom)
				}
			}
		}
		for _, axes := range texts("1 1 1 1", "0 0 0 0", "-1 1 1 1", "4097 1 1 1", "1 1 1 -1", "1 2 3 4 5", strings.Repeat("1 ", 4096)) {
			no(t, "Reshape", row(axes), w, api.ErrRank)
		}
		for _, axes := range texts("-1", "-1 1", "1 -1", "0 -1", "-1 0", "-1 -1", "1 1 -1", "-1 1 1", "1 -1 1", "4097 -1", "-1 4097 0", "-1099511627776", "1099511627776 -1099511627776", "4096 4096 -1") {
			no(t, "Reshape", row(axes), w, api.ErrDom)
		}
		for _, n := range ints(-1, -2, -furthest) {
			no(t, "Reshape", number(n), w, api.ErrDom)
		}
		for _, n := range ints(4097, 5000, 1<<32, furthest) {
			no(t, "Reshape", number(n), w, api.ErrBig)
			no(t, "Reshape", numbers(n), w, api.ErrBig)
			no(t, "Reshape", numbers(1, n), w, api.ErrBig)
			no(t, "Reshape", numbers(n, 1, 1), w, api.ErrBig)
			no(t, "Reshape", numbers(n, n, n), w, api.ErrBig)
		}
		for _, axes := range texts("64 65", "65 64", "2 2049", "16 16 17", "17 16 16", "4294967296 4294967296", "1099511627776 16777216", "2097152 2097152 2097152") {
			no(t, "Reshape", row(axes), w, api.ErrBig)
		}
	}
	for _, w := range []api.Val{none, of(ints(0, 3)), of(ints(3, 0)), of(ints(2, 0, 3)), of(ints(furthest, 0))} { // none to be laid
		for _, axes := range texts("", "1", "4", "4096", "1 1", "2 3", "64 64", "1 1 1", "2 3 4", "16 16 16") {
			no(t, "Reshape", row(axes), w, api.ErrDom)
		}
		no(t, "Reshape", only("1"), w, api.ErrDom)
		no(t, "Reshape", only("4096"), w, api.ErrDom)
		no(t, "Reshape", only("4097"), w, api.ErrBig)
		for _, axes := range texts("0", "0 3", "3 0", "2 0 3", "1099511627776 0", "0 0 0") {
			s, _ := toldAll(row(axes))
			two(t, "Reshape", row(axes), w, of(s), api.OK)
		}
		two(t, "Reshape", only("0"), w, none, api.OK)
	}
}

func TestTakeAndDrop(t *testing.T) { // P14.3
	five, six := row("1 2 3 4 5"), grid(ints(3, 2), "1 2 3 4 5 6")
	cube := grid(ints(2, 2, 2), "1 2 3 4 5 6 7 8")
	for _, c := range []struct {
		n           string
		w           api.Val
		taken, left api.Val
	}{
		{"0", five, row(""), five}, {"1", five, row("1"), row("2 3 4 5")}, {"2", five, row("1 2"), row("3 4 5")}, {"4", five, row("1 2 3 4"), row("5")}, {"5", five, five, row("")},
		{"-1", five, row("5"), row("1 2 3 4")}, {"-2", five, row("4 5"), row("1 2 3")}, {"-4", five, row("2 3 4 5"), row("1")}, {"-5", five, five, row("")},
		{"0", six, of(ints(0, 2)), six}, {"1", six, grid(ints(1, 2), "1 2"), grid(ints(2, 2), "3 4 5 6")}, {"2", six, grid(ints(2, 2), "1 2 3 4"), grid(ints(1, 2), "5 6")}, {"3", six, six, of(ints(0, 2))},
		{"-1", six, grid(ints(1, 2), "5 6"), grid(ints(2, 2), "1 2 3 4")}, {"-2", six, grid(ints(2, 2), "3 4 5 6"), grid(ints(1, 2), "1 2")}, {"-3", six, six, of(ints(0, 2))},
		{"0", cube, of(ints(0, 2, 2)), cube}, {"1", cube, grid(ints(1, 2, 2), "1 2 3 4"), grid(ints(1, 2, 2), "5 6 7 8")}, {"-1", cube, grid(ints(1, 2, 2), "5 6 7 8"), grid(ints(1, 2, 2), "1 2 3 4")}, {"2", cube, cube, of(ints(0, 2, 2))}, {"-2", cube, cube, of(ints(0, 2, 2))},
		{"0", row(""), row(""), row("")}, {"0", of(ints(0, 3)), of(ints(0, 3)), of(ints(0, 3))}, {"0", of(ints(0, furthest, 4097)), of(ints(0, furthest, 4097)), of(ints(0, furthest, 4097))},
		{"1", of(ints(3, 0)), of(ints(1, 0)), of(ints(2, 0))}, {"-2", of(ints(3, 0)), of(ints(2, 0)), of(ints(1, 0))}, {"3", of(ints(3, 0)), of(ints(3, 0)), of(ints(0, 0))}, {"0", of(ints(3, 0, 2)), of(ints(0, 0, 2)), of(ints(3, 0, 2))},
		{"1099511627775", of(ints(furthest, 0)), of(ints(furthest-1, 0)), of(ints(1, 0))}, {"1099511627776", of(ints(furthest, 0)), of(ints(furthest, 0)), of(ints(0, 0))}, {"-1099511627776", of(ints(furthest, 0)), of(ints(furthest, 0)), of(ints(0, 0))}, {"-1", of(ints(furthest, furthest, 0)), of(ints(1, furthest, 0)), of(ints(furthest-1, furthest, 0))},
		{"1", row("7"), row("7"), row("")}, {"-1", row("7"), row("7"), row("")}, {"1", grid(ints(1, 3), "1 2 3"), grid(ints(1, 3), "1 2 3"), of(ints(0, 3))},
	} {
		two(t, "Take", only(c.n), c.w, c.taken, api.OK)
		two(t, "Drop", only(c.n), c.w, c.left, api.OK)
	}
}

func TestTakeMoreThanThereAre(t *testing.T) { // P14.3, R1: none is taken, and none is left
	for _, s := range shapes() {
		if len(s) == 0 {
			continue
		}
		w := counted(s, 1)
		left := of(inFirst(s, 0))
		for _, n := range ints(s[0]+1, s[0]+2, 2*s[0]+1, 1<<32+s[0], furthest-1, furthest) {
			if n <= s[0] || n > furthest {
				continue
			}
			no(t, "Take", number(n), w, api.ErrIndex)
			no(t, "Take", number(-n), w, api.ErrIndex)
			two(t, "Drop", number(n), w, left, api.OK)
			two(t, "Drop", number(-n), w, left, api.OK)
		}
		two(t, "Take", number(s[0]), w, w, api.OK)
		two(t, "Take", number(-s[0]), w, w, api.OK)
		two(t, "Drop", number(s[0]), w, left, api.OK)
		two(t, "Drop", number(-s[0]), w, left, api.OK)
		two(t, "Take", only("0"), w, left, api.OK)
		two(t, "Drop", only("0"), w, w, api.OK)
	}
}

func TestErrorsOfTakeAndDrop(t *testing.T) { // P14.3, R1: those that are named first
	for _, call := range texts("Take", "Drop") {
		for _, w := range []api.Val{only("7"), only(nines(100)), row(""), row("1 2 3"), of(ints(3, 0)), of(ints(0, 3)), grid(ints(1, 1, 1), "5")} {
			for _, v := range []api.Val{row(""), row("1"), row("0"), row("-1"), row(nines(100)), row("1 2"), grid(ints(1, 1), "1"), grid(ints(1, 1, 1), "1"), of(ints(2, 0)), of(ints(furthest, 0))} {
				no(t, call, v, w, api.ErrRank) // a number is asked for
			}
			for _, s := range far() {
				no(t, call, only(s), w, api.ErrDom) // also where it is to be taken from what has no axis
			}
		}
		for _, n := range texts("0", "1", "-1", "2", "-2", "1099511627776", "-1099511627776") { // ahead of ErrIndex
			no(t, call, only(n), only("7"), api.ErrRank)
		}
	}
}

func TestItemsOfTakeAndDrop(t *testing.T) { // P14.3: each item is one of those that there were
	for _, s := range append(small(), ints(64, 64), ints(16, 16, 16), ints(2, 2048)) {
		if len(s) == 0 {
			continue
		}
		w := counted(s, 1)
		for _, n := range ints(0, 1, 2, s[0]/2, s[0]-1, s[0]) {
			if n < 0 || n > s[0] {
				continue
			}
			for _, c := range []struct {
				call     string
				n        int
				from, to int
			}{{"Take", n, 0, n}, {"Take", -n, s[0] - n, s[0]}, {"Drop", n, n, s[0]}, {"Drop", -n, 0, s[0] - n}} {
				if n == 0 && c.from == s[0] { // 0 items from the end are those from the front
					c.from, c.to = 0, 0
				}
				got := sure(t, c.call, number(c.n), w)
				if !slices.Equal(got.Shape, inFirst(s, c.to-c.from)) {
					t.Errorf("%s %d of %s: %s", c.call, c.n, short(w), short(got))
				}
				for i := range c.to - c.from {
					x, ok := val.Item(got, i)
					want, _ := val.Item(w, c.from+i)
					if !ok || !like(x, want) {
						t.Fatalf("item %d of %s %d of %s: %s", i, c.call, c.n, short(w), short(x))
					}
				}
			}
		}
	}
}

func TestJoin(t *testing.T) { // P14.4
	for _, c := range [][3]api.Val{
		{only("1"), only("2"), row("1 2")}, {only("1"), row("2 3"), row("1 2 3")}, {row("1 2"), only("3"), row("1 2 3")}, {only("1"), row(""), row("1")}, {row(""), only("1"), row("1")}, {only("1"), row("2"), row("1 2")},
		{row("1 2"), row("3 4 5"), row("1 2 3 4 5")}, {row("1 2"), row(""), row("1 2")}, {row(""), row("1 2"), row("1 2")}, {row(""), row(""), row("")},
		{grid(ints(2, 3), "1 2 3 4 5 6"), grid(ints(1, 3), "7 8 9"), grid(ints(3, 3), "1 2 3 4 5 6 7 8 9")}, {grid(ints(1, 3), "7 8 9"), grid(ints(2, 3), "1 2 3 4 5 6"), grid(ints(3, 3), "7 8 9 1 2 3 4 5 6")}, {of(ints(0, 3)), grid(ints(1, 3), "7 8 9"), grid(ints(1, 3), "7 8 9")}, {grid(ints(1, 3), "7 8 9"), of(ints(0, 3)), grid(ints(1, 3), "7 8 9")}, {of(ints(0, 3)), of(ints(0, 3)), of(ints(0, 3))}, {of(ints(2, 0)), of(ints(3, 0)), of(ints(5, 0))}, {of(ints(0, 0)), of(ints(3, 0)), of(ints(3, 0))}, {grid(ints(2, 1), "1 2"), grid(ints(1, 1), "3"), grid(ints(3, 1), "1 2 3")},
		{grid(ints(1, 2, 2), "1 2 3 4"), grid(ints(2, 2, 2), "5 6 7 8 9 10 11 12"), grid(ints(3, 2, 2), "1 2 3 4 5 6 7 8 9 10 11 12")}, {of(ints(0, 2, 1)), grid(ints(1, 2, 1), "1 2"), grid(ints(1, 2, 1), "1 2")}, {of(ints(2, 0, 3)), of(ints(1, 0, 3)), of(ints(3, 0, 3))}, {grid(ints(1, 1, 1), "1"), grid(ints(1, 1, 1), "2"), grid(ints(2, 1, 1), "1 2")},
		{of(ints(furthest-1, 0)), of(ints(1, 0)), of(ints(furthest, 0))}, {of(ints(0, furthest)), of(ints(0, furthest)), of(ints(0, furthest))}, {of(ints(furthest, 0, furthest)), of(ints(0, 0, furthest)), of(ints(furthest, 0, furthest))}, {of(ints(1<<39, furthest, 0)), of(ints(1<<39, furthest, 0)), of(ints(furthest, furthest, 0))},
	} {
		two(t, "Join", c[0], c[1], c[2], api.OK)
	}
	for _, s := range small() { // each item is one of those that there were
		for _, more := range ints(0, 1, 2, 5) {
			if len(s) == 0 {
				continue
			}
			v, w := counted(s, 1), counted(inFirst(s, more), 1000)
			got := sure(t, "Join", v, w)
			for i := range s[0] + more {
				want, ok := val.Item(v, i)
				if !ok {
					want, _ = val.Item(w, i-s[0])
				}
				if x, _ := val.Item(got, i); !like(x, want) {
					t.Errorf("item %d of %s and %s, joined: %s", i, short(v), short(w), short(x))
				}
			}
		}
	}
}

func TestErrorsOfJoin(t *testing.T) { // P14.4, R1: each one, both ways round, and those that are named first
	for _, c := range []struct {
		v, w []int
		want api.Errno
	}{
		{nil, ints(1, 1), api.ErrRank}, {nil, ints(1, 1, 1), api.ErrRank}, {nil, ints(3, 2), api.ErrRank}, {nil, ints(0, 0), api.ErrRank}, {nil, ints(0, 1), api.ErrRank}, // one axis and more
		{ints(1), ints(1, 1), api.ErrRank}, {ints(3), ints(2, 3), api.ErrRank}, {ints(3), ints(3, 1), api.ErrRank}, {ints(0), ints(0, 0), api.ErrRank}, {ints(0), ints(3, 0), api.ErrRank}, {ints(1), ints(1, 1, 1), api.ErrRank}, {ints(3), ints(2, 2, 3), api.ErrRank}, {ints(2, 3), ints(2, 2, 3), api.ErrRank}, {ints(1, 1), ints(1, 1, 1), api.ErrRank}, {ints(2, 3), ints(2, 3, 1), api.ErrRank}, {ints(0, 3), ints(0, 0, 3), api.ErrRank},
		{ints(4096), ints(4096, 1), api.ErrRank}, {nil, ints(1, 4096), api.ErrRank}, {ints(furthest, 0), ints(furthest, 0, 0), api.ErrRank}, {ints(furthest, 0), ints(4096), api.ErrRank}, // ahead of what is too large
		{ints(2, 3), ints(2, 2), api.ErrShape}, {ints(2, 3), ints(3, 2), api.ErrShape}, {ints(2, 3), ints(2, 1), api.ErrShape}, {ints(2, 3), ints(0, 2), api.ErrShape}, {ints(0, 3), ints(0, 2), api.ErrShape}, {ints(3, 0), ints(3, 1), api.ErrShape}, {ints(2, 0), ints(0, 2), api.ErrShape}, // other axes
		{ints(2, 3, 4), ints(2, 3, 5), api.ErrShape}, {ints(2, 3, 4), ints(2, 2, 4), api.ErrShape}, {ints(2, 3, 4), ints(2, 4, 3), api.ErrShape}, {ints(1, 1, 2), ints(1, 2, 1), api.ErrShape}, {ints(0, 1, 2), ints(0, 2, 2), api.ErrShape}, {ints(2, 3, 0), ints(2, 2, 0), api.ErrShape}, {ints(2, 0, 3), ints(2, 0, 4), api.ErrShape},
		{ints(4096, 1), ints(1, 2), api.ErrShape}, {ints(64, 64), ints(63, 65), api.ErrShape}, {ints(furthest, 0, 1), ints(furthest, 0, 2), api.ErrShape}, // ahead of what is too large
		{ints(4096), ints(1), api.ErrBig}, {ints(4096), nil, api.ErrBig}, {ints(2048), ints(2049), api.ErrBig}, {ints(4096), ints(4096), api.ErrBig}, {ints(64, 64), ints(1, 64), api.ErrBig}, {ints(4096, 1), ints(1, 1), api.ErrBig}, {ints(1, 4096), ints(1, 4096), api.ErrBig}, {ints(16, 16, 16), ints(1, 16, 16), api.ErrBig}, {ints(1, 1, 4096), ints(1, 1, 4096), api.ErrBig}, {ints(1, 1365), ints(3, 1365), api.ErrBig}, // too many elements
		{ints(furthest, 0), ints(1, 0), api.ErrBig}, {ints(furthest, 0), ints(furthest, 0), api.ErrBig}, {ints(furthest-1, 0), ints(2, 0), api.ErrBig}, {ints(1<<39, 0), ints(1<<39+1, 0), api.ErrBig}, {ints(furthest, 0, 3), ints(1, 0, 3), api.ErrBig}, {ints(furthest, 3, 0), ints(furthest, 3, 0), api.ErrBig}, {ints(furthest, 0, furthest), ints(1, 0, furthest), api.ErrBig}, // an axis too long
	} {
		v, w := counted(c.v, 1), counted(c.w, 1)
		no(t, "Join", v, w, c.want)
		no(t, "Join", w, v, c.want)
	}
	two(t, "Join", counted(ints(4095), 0), only("4095"), counted(ints(4096), 0), api.OK) // just as many as there may be
	two(t, "Join", only("0"), counted(ints(4095), 1), counted(ints(4096), 0), api.OK)
	two(t, "Join", counted(ints(4096), 0), row(""), counted(ints(4096), 0), api.OK)
	two(t, "Join", of(ints(0, 64)), counted(ints(64, 64), 0), counted(ints(64, 64), 0), api.OK)
	two(t, "Join", counted(ints(1, 1365), 0), counted(ints(2, 1365), 1365), counted(ints(3, 1365), 0), api.OK)
}

func TestAllShapes(t *testing.T) { // P14.1 to P14.4: each array, and each with each, both ways round
	for _, v := range good() {
		holdOne(t, v)
	}
	all := slices.Concat(small(), hollow())
	for i, s := range all {
		for _, r := range all[i:] {
			hold(t, counted(s, -3), counted(r, 2))
		}
	}
	r := random(3)
	for _, s := range full() {
		v := r.array(s)
		for _, other := range append(shapes(), ints(4095), ints(63, 64)) {
			hold(t, v, counted(other, 1))
		}
	}
}

func TestAnyNumbers(t *testing.T) { // P14.2, P14.3: a number, or some, of an array of each shape
	lists := [][]int{ints(2, 3), ints(3, 2), ints(1, 1, 5), ints(0, 4), ints(4, 0, 4), ints(64, 64), ints(4096, 1), ints(16, 16, 16), ints(65, 64), ints(-1, 3), ints(3, -1), ints(1, 2, 3, 4), ints(furthest, 0), ints(furthest+1, 0), ints(0, furthest), nil, ints(furthest, furthest, 0), ints(furthest, furthest)}
	for _, w := range slices.Concat(small(), hollow(), full()[:4]) {
		for n := -9; n <= 9; n++ {
			hold(t, number(n), counted(w, 1))
			hold(t, numbers(n), counted(w, 1))
		}
		for _, n := range ints(64, 100, 1000, 4095, 4096, 4097, furthest-1, furthest, furthest+1, math.MaxInt, math.MinInt) {
			hold(t, number(n), counted(w, 1))
			hold(t, number(-n), counted(w, 1))
		}
		for _, l := range lists {
			hold(t, numbers(l...), counted(w, 1))
		}
	}
	r := random(21)
	for range 4000 {
		var l []int
		for range r.below(5) {
			l = append(l, r.below(9)-1)
		}
		s := small()[r.below(len(small()))]
		hold(t, numbers(l...), r.array(s))
		hold(t, r.array(nil), r.array(s))
	}
}

func TestMayNotBe(t *testing.T) { // R1, R5: ErrArg first, as the one, as the other, as both
	fine := []api.Val{only("0"), only("7"), only("-1"), only(nines(100)), row(""), row("1"), row("1 2"), row("1 1 1 1"), row(nines(100)), grid(ints(2, 3), "1 2 3 4 5 6"), of(ints(3, 0)), of(ints(furthest, 0)), grid(ints(1, 1, 1), "0"), filled(ints(4096), "1")}
	for i, v := range bad() {
		for _, call := range ones() {
			noOne(t, call, v, api.ErrArg)
		}
		for _, call := range twos() {
			no(t, call, v, v, api.ErrArg)
			for _, w := range fine { // also of a shape, a number or none that has another error
				no(t, call, v, w, api.ErrArg)
				no(t, call, w, v, api.ErrArg)
			}
		}
		for j, w := range bad() {
			no(t, twos()[(i+j)%4], v, w, api.ErrArg)
		}
	}
}

func TestEachElementIsLookedAt(t *testing.T) { // R1: what is no number, at each place, of either side
	for _, s := range [][]int{nil, ints(1), ints(5), ints(2, 3), ints(2, 2, 2)} {
		for i := range product(s) {
			for _, x := range noNumbers() {
				v := counted(s, 1)
				v.Elems[i] = x
				for _, call := range ones() {
					noOne(t, call, v, api.ErrArg)
				}
				for _, call := range twos() {
					no(t, call, v, counted(s, 1), api.ErrArg)
					no(t, call, counted(s, 1), v, api.ErrArg)
					no(t, call, only("0"), v, api.ErrArg) // though none of it is told
					no(t, call, v, row(""), api.ErrArg)
				}
			}
		}
	}
}

func TestTakenAndDroppedIsAll(t *testing.T) { // P14.5: from the front, and from the end
	r := random(8)
	for _, s := range shapes() {
		if len(s) == 0 {
			continue
		}
		w := r.array(s)
		many := s[0]
		for _, n := range ints(0, 1, 2, 3, many/2, many-1, many) {
			if n < 0 || n > many {
				continue
			}
			front := sure(t, "Join", sure(t, "Take", number(n), w), sure(t, "Drop", number(n), w))
			end := sure(t, "Join", sure(t, "Drop", number(-n), w), sure(t, "Take", number(-n), w))
			if n == 0 { // taken from the end are those taken from the front then, and all is left
				end = sure(t, "Join", sure(t, "Take", number(-n), w), sure(t, "Drop", number(-n), w))
			}
			if !like(front, w) || !like(end, w) {
				t.Errorf("%d of %s taken, and dropped, joined: %s, and from the end %s", n, short(w), short(front), short(end))
			}
		}
	}
}

func TestTwice(t *testing.T) { // P14.5: reversed, and flipped
	for _, v := range good() {
		for _, call := range texts("Reverse", "Flip") {
			if got := sureOne(t, call, sureOne(t, call, v)); !like(got, v) {
				t.Errorf("%s of %s twice: %s", call, short(v), short(got))
			}
		}
	}
}

func TestThereAndBack(t *testing.T) { // P14.1, P14.2: of its axes and its elements, an array is what it was
	for _, v := range good() {
		if got := sure(t, "Reshape", sureOne(t, "Shape", v), sureOne(t, "Ravel", v)); !like(got, v) {
			t.Errorf("%s, of its axes and its elements: %s", short(v), short(got))
		}
	}
}

func TestNilAndEmpty(t *testing.T) { // R2: of shapes, and of elements
	for _, s := range [][]int{nil, {}, make([]int, 0, 5)} {
		v := of(s, "2")
		one(t, "Iota", v, row("0 1"), api.OK)
		one(t, "Tally", v, only("1"), api.OK)
		one(t, "Shape", v, row(""), api.OK)
		one(t, "Ravel", v, row("2"), api.OK)
		one(t, "Reverse", v, only("2"), api.OK)
		one(t, "Flip", v, only("2"), api.OK)
		two(t, "Reshape", v, row("5 6 7"), row("5 6"), api.OK)
		two(t, "Reshape", row("3"), v, row("2 2 2"), api.OK)
		two(t, "Take", v, row("5 6 7"), row("5 6"), api.OK)
		two(t, "Drop", v, row("5 6 7"), row("7"), api.OK)
		no(t, "Take", v, v, api.ErrRank)
		no(t, "Drop", only("0"), v, api.ErrRank)
		two(t, "Join", v, v, row("2 2"), api.OK)
		two(t, "Join", v, row("5"), row("2 5"), api.OK)
		two(t, "Join", row("5"), v, row("5 2"), api.OK)
		for _, elems := range [][]string{nil, {}, make([]string, 0, 5)} {
			for _, call := range ones() {
				noOne(t, call, of(s, elems...), api.ErrArg)
			}
			for _, call := range twos() {
				no(t, call, of(s, elems...), row("1"), api.ErrArg)
				no(t, call, row("1"), of(s, elems...), api.ErrArg)
			}
			none := of(ints(0), elems...)
			one(t, "Ravel", none, row(""), api.OK)
			one(t, "Reverse", none, row(""), api.OK)
			one(t, "Flip", of(ints(3, 0), elems...), of(ints(0, 3)), api.OK)
			two(t, "Reshape", none, row("5 6"), only("5"), api.OK)
			two(t, "Reshape", only("0"), none, row(""), api.OK)
			no(t, "Reshape", only("1"), none, api.ErrDom)
			two(t, "Take", only("0"), none, row(""), api.OK)
			two(t, "Drop", only("5"), none, row(""), api.OK)
			two(t, "Join", none, of(ints(0), elems...), row(""), api.OK)
			two(t, "Join", none, v, row("2"), api.OK)
		}
	}
}

// spoil writes all over an array, also behind its lists' ends.
func spoil(v api.Val) {
	axes, elems := v.Shape[:cap(v.Shape)], v.Elems[:cap(v.Elems)]
	for i := range axes {
		axes[i] = -77
	}
	for i := range elems {
		elems[i] = "spoilt"
	}
}

// copied is an array of its own, with room behind its lists.
func copied(v api.Val) api.Val {
	return of(append(make([]int, 0, len(v.Shape)+4), v.Shape...), append(make([]string, 0, len(v.Elems)+4), v.Elems...)...)
}

// room is an array with all that is behind its lists.
func room(v api.Val) api.Val {
	return of(v.Shape[:cap(v.Shape)], v.Elems[:cap(v.Elems)]...)
}

// some are pairs of arrays of which something comes out of one call or more, and of which one may not be, or has an error.
func some() [][2]api.Val {
	l := [][2]api.Val{{only("5"), only("3")}, {row("1 2"), of(ints(2), "1", "x")}, {of(ints(-1)), only("1")}, {row("2 3"), row("1 2 3 4 5 6")}, {row("2 2"), row("1 2 3")}, {row(""), row("1 2")}, {row("0"), row("1")}, {row("1 2"), grid(ints(1, 1), "1")}, {of(ints(furthest, 0)), of(ints(1, 0))}}
	for _, s := range [][]int{ints(0), ints(1), ints(4), ints(2, 3), ints(0, 3), ints(3, 0), ints(2, 1, 2), ints(3, 0, 1)} {
		l = append(l, [2]api.Val{counted(s, 1), counted(s, 9)}, [2]api.Val{counted(s, 1), of(inFirst(s, 0))}, [2]api.Val{of(inFirst(s, 0)), counted(s, 1)})
		for _, n := range texts("0", "1", "2", "-1", "-2", "3", "100", "-100") {
			l = append(l, [2]api.Val{only(n), counted(s, 1)})
		}
	}
	return l
}

// answers are those of all calls to a pair of arrays: the one, the other, both in each turn, and each twice.
func answers(v, w api.Val) (l []api.Val, errs []api.Errno) {
	for _, call := range ones() {
		for _, x := range []api.Val{v, w} {
			told, err := askOne(call, x)
			l, errs = append(l, told), append(errs, err)
		}
	}
	for _, call := range twos() {
		for _, pair := range [][2]api.Val{{v, w}, {w, v}, {v, v}, {w, w}} {
			told, err := ask(call, pair[0], pair[1])
			l, errs = append(l, told), append(errs, err)
		}
	}
	return l, errs
}

func TestWhatIsHandedInStays(t *testing.T) { // R3: also behind its lists' ends, and if it is handed in twice, and what is told is written over
	for _, pair := range some() {
		v, w := copied(pair[0]), copied(pair[1])
		keptV, keptW := copied(room(v)), copied(room(w))
		l, _ := answers(v, w)
		for i, told := range l {
			spoil(told)
			if !like(room(v), keptV) || !like(room(w), keptW) {
				t.Fatalf("%s and %s are %s and %s behind answer %d", short(pair[0]), short(pair[1]), short(v), short(w), i)
			}
		}
	}
}

func TestWhatIsToldStays(t *testing.T) { // R3: what was handed in is written over then, and so is what is told once more, and what else was told
	for _, pair := range some() {
		v, w := copied(pair[0]), copied(pair[1])
		l, _ := answers(v, w)
		var kept []api.Val
		for _, told := range l {
			kept = append(kept, copied(told))
		}
		again, _ := answers(v, w)
		for _, told := range again {
			spoil(told)
		}
		spoil(v)
		spoil(w)
		for i, told := range l {
			if !like(told, kept[i]) {
				t.Errorf("answer %d to %s and %s was %s, and is %s", i, short(pair[0]), short(pair[1]), short(kept[i]), short(told))
			}
			spoil(told)
		}
	}
}

func TestAnswersHangOnNothingElse(t *testing.T) { // R4: asked again in reverse, from four sides at once
	var first [][]api.Val
	var firstErrs [][]api.Errno
	for _, pair := range some() {
		l, errs := answers(pair[0], pair[1])
		first, firstErrs = append(first, l), append(firstErrs, errs)
	}
	var all sync.WaitGroup
	for range 4 {
		all.Go(func() {
			for i, pair := range slices.Backward(some()) {
				l, errs := answers(pair[0], pair[1])
				if !slices.EqualFunc(l, first[i], like) || !slices.Equal(errs, firstErrs[i]) {
					t.Errorf("%s and %s: %v, %v, then %v, %v", short(pair[0]), short(pair[1]), first[i], firstErrs[i], l, errs)
				}
			}
		})
	}
	all.Wait()
}

func TestNothingBesideErrors(t *testing.T) { // R1: an answer is an array that may be, or an error alone
	r := random(2)
	l := append(slices.Concat(good(), bad()), row("2 3"), row("4 0"), only("3"), only("-2"), only("4"))
	for _, v := range l {
		for _, w := range []api.Val{l[r.below(len(l))], l[r.below(len(l))], r.array(ints(3, 2))} {
			told, errs := answers(v, w)
			for i, x := range told {
				if val.May(x) != (errs[i] == api.OK) || errs[i] != api.OK && !like(x, zero) {
					t.Errorf("answer %d to %s and %s: %s, %d", i, short(v), short(w), short(x), errs[i])
				}
			}
		}
	}
}
