package spread_test

import (
	"slices"
	"strings"
	"sync"
	"testing"

	"reredos/api"
	"reredos/scalar"
	"reredos/shape"
	"reredos/spread"
	"reredos/val"
)

// The calls, with the exact signatures that the chapter lists.
var (
	_ func(op string, v, w api.Val) (api.Val, api.Errno) = spread.Dyad
	_ func(op string, v api.Val) (api.Val, api.Errno)    = spread.Monad
	_ func(op string) bool                               = spread.Ops
)

// dyad asks what a sign does with two arrays; what it is may be, whenever it is one.
func dyad(t *testing.T, op string, v, w, want api.Val, wantErr api.Errno) {
	t.Helper()
	got, err := spread.Dyad(op, v, w)
	if !like(got, want) || err != wantErr || err == api.OK && !val.May(got) {
		t.Errorf("%s %s %s: %s, %d; not %s, %d", short(v), long(op), short(w), short(got), err, short(want), wantErr)
	}
}

// no asks so of two arrays of which nothing but an error is told.
func no(t *testing.T, op string, v, w api.Val, want api.Errno) {
	t.Helper()
	dyad(t, op, v, w, zero, want)
}

// monad asks what a sign does with one.
func monad(t *testing.T, op string, v, want api.Val, wantErr api.Errno) {
	t.Helper()
	got, err := spread.Monad(op, v)
	if !like(got, want) || err != wantErr || err == api.OK && !val.May(got) {
		t.Errorf("%s %s: %s, %d; not %s, %d", long(op), short(v), short(got), err, short(want), wantErr)
	}
}

// hold holds a sign of two arrays that may be against the chapter's words.
func hold(t *testing.T, op string, v, w api.Val) {
	t.Helper()
	want, err := said(op, v, w)
	dyad(t, op, v, w, want, err)
}

// holdEach does so with each sign, both ways round.
func holdEach(t *testing.T, v, w api.Val) {
	t.Helper()
	for _, op := range signs(dyads) {
		hold(t, op, v, w)
		hold(t, op, w, v)
	}
}

// holdOne holds each sign of one array against them.
func holdOne(t *testing.T, v api.Val) {
	t.Helper()
	for _, op := range signs(monads) {
		want, err := saidOfOne(op, v)
		monad(t, op, v, want, err)
	}
}

func TestExample(t *testing.T) { // the chapter's
	dyad(t, "+", row("1 2 3"), only("10"), row("11 12 13"), api.OK)
}

func TestEachSign(t *testing.T) { // P13.1: element by element, with arrays of one axis, and of none to either side
	v, w := row("7 -7 2 5"), row("2 2 7 5")
	for _, c := range []struct{ op, both, right, left string }{ // v and w, v and 3, 3 and w
		{"+", "9 -5 9 10", "10 -4 5 8", "5 5 10 8"},
		{"-", "5 -9 -5 0", "4 -10 -1 2", "1 1 -4 -2"},
		{"*", "14 -14 14 25", "21 -21 6 15", "6 6 21 15"},
		{"%", "3 -4 0 1", "2 -3 0 1", "1 1 0 0"},
		{"!", "1 1 2 0", "1 2 2 2", "1 1 3 3"},
		{"&", "2 -7 2 5", "3 -7 2 3", "2 2 3 3"},
		{"|", "7 2 7 5", "7 3 3 5", "3 3 7 5"},
		{"<", "0 1 1 0", "0 1 1 0", "0 0 1 1"},
		{">", "1 0 0 0", "1 0 0 1", "1 1 0 0"},
		{"=", "0 0 0 1", "0 0 0 0", "0 0 0 0"},
		{"~", "1 1 1 0", "1 1 1 1", "1 1 1 1"},
	} {
		dyad(t, c.op, v, w, row(c.both), api.OK)
		dyad(t, c.op, v, only("3"), row(c.right), api.OK)
		dyad(t, c.op, only("3"), w, row(c.left), api.OK)
		for _, s := range [][]int{ints(2, 2), ints(4, 1), ints(1, 4), ints(2, 1, 2), ints(1, 2, 2)} {
			dyad(t, c.op, of(s, v.Elems...), of(s, w.Elems...), of(s, strings.Fields(c.both)...), api.OK)
			dyad(t, c.op, of(s, v.Elems...), only("3"), of(s, strings.Fields(c.right)...), api.OK)
			dyad(t, c.op, only("3"), of(s, w.Elems...), of(s, strings.Fields(c.left)...), api.OK)
		}
		for i := range v.Elems {
			dyad(t, c.op, only(v.Elems[i]), only(w.Elems[i]), only(strings.Fields(c.both)[i]), api.OK)
		}
	}
}

func TestEachSignOfOne(t *testing.T) { // P13.1
	for _, s := range [][]int{ints(6), ints(2, 3), ints(3, 2), ints(6, 1), ints(1, 6), ints(1, 3, 2), ints(3, 1, 2)} {
		v := of(s, "5", "-5", "0", "1", "-12", nines(100))
		monad(t, "-", v, of(s, "-5", "5", "0", "-1", "12", "-"+nines(100)), api.OK)
		monad(t, "~", v, of(s, "0", "0", "1", "0", "0", "0"), api.OK)
		monad(t, "*", v, of(s, "1", "-1", "0", "1", "-1", "1"), api.OK)
	}
	for _, c := range []struct{ a, negated, not, sign string }{{"0", "0", "1", "0"}, {"1", "-1", "0", "1"}, {"-9", "9", "0", "-1"}, {"-" + nines(100), nines(100), "0", "-1"}} {
		for _, s := range [][]int{nil, ints(1), ints(1, 1), ints(1, 1, 1)} {
			monad(t, "-", of(s, c.a), of(s, c.negated), api.OK)
			monad(t, "~", of(s, c.a), of(s, c.not), api.OK)
			monad(t, "*", of(s, c.a), of(s, c.sign), api.OK)
		}
	}
}

func TestWritten(t *testing.T) { // P13.1: shapes that meet, place by place
	for _, c := range []struct {
		op         string
		v, w, want api.Val
	}{
		{"-", only("1"), only("10"), only("-9")}, {"-", only("1"), row("10"), row("-9")}, {"-", row("10"), only("1"), row("9")}, {"-", row("10"), row("1"), row("9")},
		{"-", only("1"), row("10 20 30"), row("-9 -19 -29")}, {"-", row("10 20 30"), only("1"), row("9 19 29")}, {"-", row("10 20 30"), row("1 2 3"), row("9 18 27")},
		{"-", only("1"), of(ints(2, 2), "1", "2", "3", "4"), of(ints(2, 2), "0", "-1", "-2", "-3")}, {"-", of(ints(2, 2), "1", "2", "3", "4"), only("1"), of(ints(2, 2), "0", "1", "2", "3")},
		{"*", of(ints(2, 3), "1", "2", "3", "4", "5", "6"), of(ints(2, 3), "6", "5", "4", "3", "2", "1"), of(ints(2, 3), "6", "10", "12", "12", "10", "6")},
		{"-", only("1"), of(ints(1, 1), "5"), of(ints(1, 1), "-4")}, {"-", of(ints(1, 1), "5"), only("1"), of(ints(1, 1), "4")}, {"-", only("1"), of(ints(1, 1, 1), "5"), of(ints(1, 1, 1), "-4")}, {"-", of(ints(1, 1, 1), "5"), only("1"), of(ints(1, 1, 1), "4")},
		{"+", of(ints(2, 1, 2), "1", "2", "3", "4"), of(ints(2, 1, 2), "40", "30", "20", "10"), of(ints(2, 1, 2), "41", "32", "23", "14")}, {"%", only("12"), of(ints(2, 2, 1), "1", "2", "3", "4"), of(ints(2, 2, 1), "12", "6", "4", "3")},
		{"+", only("1"), row(""), row("")}, {"+", row(""), only("1"), row("")}, {"+", row(""), row(""), row("")},
		{"+", only("1"), of(ints(3, 0)), of(ints(3, 0))}, {"+", of(ints(0, 3)), only("1"), of(ints(0, 3))}, {"+", of(ints(2, 0, 3)), of(ints(2, 0, 3)), of(ints(2, 0, 3))},
		{"+", row(nines(99) + "8 -1 0"), only("1"), row(nines(100) + " 0 1")}, {"*", row(power(50) + " 0 -" + power(50)), row(power(49) + " " + nines(100) + " " + power(49)), row(power(99) + " 0 -" + power(99))},
	} {
		dyad(t, c.op, c.v, c.w, c.want, api.OK)
		hold(t, c.op, c.v, c.w)
	}
}

func TestAllShapes(t *testing.T) { // P13.1: each with each, both ways round
	all := slices.Concat(small(), hollow())
	for i, s := range all {
		for j, r := range all {
			v, w := counted(s, 5), counted(r, -7)
			hold(t, dyads[(i+j)%len(dyads):][:1], v, w)
			met, err := shape.Meet(s, r)
			got, e := spread.Dyad("-", v, w)
			if e != err || !slices.Equal(got.Shape, met) || err != api.OK && !like(got, zero) {
				t.Errorf("%s and %s meet: %s, %d", short(v), short(w), short(got), e)
			}
			if slices.Equal(s, r) || len(s) == 0 || len(r) == 0 {
				holdEach(t, v, w)
			}
		}
	}
}

func TestAnyElements(t *testing.T) { // P13.1: arrays of the same shape, and with one of no axis; some have an error
	r := random(5)
	for range 40 {
		for _, s := range small() {
			v, w, alone := r.array(s), r.array(s), r.array(nil)
			holdEach(t, v, w)
			holdEach(t, v, alone)
			holdOne(t, v)
		}
	}
}

func TestMaxCells(t *testing.T) { // P13.1: as many elements as there may be, and one more
	r := random(6)
	for _, s := range full() {
		v, w := r.array(s), r.array(s)
		for _, op := range signs(dyads) {
			hold(t, op, v, w)
			hold(t, op, v, only("3"))
			hold(t, op, only("3"), w)
		}
		holdOne(t, v)
		up, down := counted(s, 0), counted(s, -4095)
		slices.Reverse(down.Elems)
		dyad(t, "+", up, down, filled(s, "0"), api.OK)
		monad(t, "*", filled(s, "-"+nines(100)), filled(s, "-1"), api.OK)
		dyad(t, "-", only("0"), filled(s, nines(100)), filled(s, "-"+nines(100)), api.OK)
		for _, other := range full() {
			if !slices.Equal(s, other) {
				no(t, "+", v, filled(other, "1"), api.ErrShape)
			}
		}
	}
	for _, s := range [][]int{ints(4097), ints(64, 65), ints(1, 4097), ints(16, 16, 17)} {
		v := filled(s, "1")
		no(t, "+", v, v, api.ErrArg)
		no(t, "+", v, only("1"), api.ErrArg)
		no(t, "+", only("1"), v, api.ErrArg)
		monad(t, "-", v, zero, api.ErrArg)
	}
}

func TestUnlikeShapes(t *testing.T) { // P13.1, R1
	for _, c := range [][2][]int{
		{ints(3), ints(4)}, {ints(3), ints(2)}, {ints(1), ints(2)}, {ints(1), ints(3)}, {ints(4096), ints(4095)}, // longer, shorter
		{ints(2, 3), ints(2, 4)}, {ints(2, 3), ints(3, 3)}, {ints(2, 3), ints(2, 2)}, {ints(2, 3), ints(1, 3)}, {ints(2, 3), ints(2, 1)}, {ints(2, 3, 2), ints(2, 3, 3)}, {ints(2, 3, 2), ints(2, 2, 2)}, {ints(2, 3, 2), ints(1, 3, 2)},
		{ints(3), ints(3, 1)}, {ints(3), ints(1, 3)}, {ints(3), ints(3, 3)}, {ints(3), ints(2, 3)}, {ints(3), ints(3, 2)}, {ints(2, 3), ints(2, 3, 1)}, {ints(2, 3), ints(1, 2, 3)}, {ints(2, 3), ints(2, 1, 3)}, {ints(2, 3), ints(2, 3, 2)}, {ints(3), ints(3, 1, 1)}, {ints(3), ints(1, 1, 3)}, {ints(1), ints(1, 1)}, {ints(1, 1), ints(1, 1, 1)}, {ints(1), ints(1, 1, 1)}, // an axis more
		{ints(2, 3), ints(3, 2)}, {ints(1, 6), ints(6, 1)}, {ints(2, 3), ints(1, 6)}, {ints(6), ints(2, 3)}, {ints(2, 3, 4), ints(4, 3, 2)}, {ints(2, 3, 4), ints(3, 4, 2)}, {ints(2, 3, 4), ints(4, 6)}, {ints(24), ints(2, 3, 4)}, // as many elements in all
		{ints(0), ints(1)}, {ints(0), ints(3)}, {ints(0, 3), ints(2, 3)}, {ints(2, 0), ints(2, 3)}, {ints(0, 3), ints(3)}, {ints(0), ints(2, 3)}, {ints(2, 0, 3), ints(2, 2, 3)}, {ints(0, 1, 1), ints(1, 1, 1)}, // 0 on one side alone
		{ints(0), ints(0, 0)}, {ints(0), ints(0, 3)}, {ints(0), ints(3, 0)}, {ints(0, 3), ints(3, 0)}, {ints(0, 3), ints(0, 2)}, {ints(3, 0), ints(2, 0)}, {ints(0, 2, 3), ints(2, 0, 3)}, {ints(2, 0, 3), ints(2, 3, 0)}, {ints(0, 0), ints(0, 0, 0)}, {ints(1<<40, 0), ints(0, 1<<40)}, {ints(1<<40, 0), ints(1<<40-1, 0)}, // without an element on both
	} {
		v, w := counted(c[0], 1), counted(c[1], 1)
		for _, op := range signs(dyads) {
			no(t, op, v, w, api.ErrShape)
			no(t, op, w, v, api.ErrShape)
		}
	}
}

func TestOneElement(t *testing.T) { // P13.1: an array of no axis stands at each place; one of one axis and one element doesn't
	for _, s := range slices.Concat(small(), hollow()) {
		v := counted(s, 1)
		for _, op := range signs(dyads) {
			hold(t, op, v, only("3"))
			hold(t, op, only("3"), v)
			for _, alone := range []api.Val{of(ints(1), "3"), of(ints(1, 1), "3"), of(ints(1, 1, 1), "3")} {
				if len(s) > 0 && !slices.Equal(s, alone.Shape) {
					no(t, op, v, alone, api.ErrShape)
					no(t, op, alone, v, api.ErrShape)
				}
			}
		}
	}
	dyad(t, "+", row("1 2 3"), only("3"), row("4 5 6"), api.OK)
	no(t, "+", row("1 2 3"), row("3"), api.ErrShape)
	dyad(t, "+", only("1"), row("3"), row("4"), api.OK)
	dyad(t, "+", row("1"), only("3"), row("4"), api.OK)
	dyad(t, "+", only("1"), only("3"), only("4"), api.OK)
}

func TestMayNotBe(t *testing.T) { // P13.1, R1, R5: as the one, as the other, as both
	fine := []api.Val{only("0"), only("7"), row(""), row("1"), row("1 2"), row("1 2 3"), of(ints(2, 3), "1", "2", "3", "4", "5", "6"), of(ints(3, 0)), of(ints(1, 1, 1), "0")}
	for i, v := range bad() {
		for _, op := range signs(dyads) {
			no(t, op, v, v, api.ErrArg)
			for _, w := range fine { // also of another shape, and with what has an error
				no(t, op, v, w, api.ErrArg)
				no(t, op, w, v, api.ErrArg)
			}
		}
		for j, w := range bad() {
			no(t, dyads[(i+j)%len(dyads):][:1], v, w, api.ErrArg)
		}
		for _, op := range signs(monads) {
			monad(t, op, v, zero, api.ErrArg)
		}
	}
}

func TestEachElementIsLookedAt(t *testing.T) { // P13.1: what is no number, at each place, of either side
	for _, s := range [][]int{nil, ints(1), ints(5), ints(2, 3), ints(2, 2, 2)} {
		for i := range product(s) {
			for _, x := range noNumbers() {
				v, w := counted(s, 1), counted(s, 1)
				v.Elems[i] = x
				for _, op := range signs(dyads) {
					no(t, op, v, w, api.ErrArg)
					no(t, op, w, v, api.ErrArg)
					no(t, op, v, only("1"), api.ErrArg)
					no(t, op, only("1"), v, api.ErrArg)
					no(t, op, v, row(""), api.ErrArg) // though none is paired with it
				}
				for _, op := range signs(monads) {
					monad(t, op, v, zero, api.ErrArg)
				}
			}
		}
	}
}

func TestNoSigns(t *testing.T) { // P13.1, R1: with arrays of each kind, of no element, of unlike shapes, and that may not be
	l := []api.Val{only("7"), row(""), row("5"), row("1 2 3"), of(ints(2, 3), "1", "2", "3", "4", "5", "6"), of(ints(3, 0)), of(ints(0, 1, 2)), of(ints(1, 1, 1), "5"), only("x"), of(ints(-1))}
	for _, op := range noSigns() {
		if spread.Ops(op) {
			t.Errorf("Ops(%s)", long(op))
		}
		for _, v := range l {
			for _, w := range l {
				no(t, op, v, w, api.ErrArg)
			}
		}
	}
	for _, op := range noMonads() {
		for _, v := range l {
			monad(t, op, v, zero, api.ErrArg)
		}
	}
}

func TestJustTheseSigns(t *testing.T) { // P13.1: of all texts of up to two bytes, just Dyads' and Monads' do anything, in their turn
	all := texts("")
	for i := range 256 {
		all = append(all, string([]byte{byte(i)}))
		for j := range 256 {
			all = append(all, string([]byte{byte(i), byte(j)}))
		}
	}
	var ops, two, one string
	for _, op := range all {
		if spread.Ops(op) {
			ops += op
		}
		if _, err := spread.Dyad(op, row("7 8"), row("2 3")); err == api.OK {
			two += op
		}
		if _, err := spread.Dyad(op, row(""), row("")); err == api.OK {
			two += op
		}
		if _, err := spread.Monad(op, row("7 8")); err == api.OK {
			one += op
		}
		if _, err := spread.Monad(op, row("")); err == api.OK {
			one += op
		}
	}
	for _, c := range []struct{ call, got, want string }{{"Ops", ops, dyads}, {"Dyad", two, dyads + dyads}, {"Monad", one, monads + monads}, {"scalar.Dyads", scalar.Dyads(), dyads}, {"scalar.Monads", scalar.Monads(), monads}} {
		got, want := signs(c.got), signs(c.want)
		slices.Sort(got)
		slices.Sort(want)
		if !slices.Equal(got, want) {
			t.Errorf("%s does something of %q, not of %q", c.call, got, want)
		}
	}
}

func TestOps(t *testing.T) { // P13.1
	for _, op := range signs(dyads) {
		if !spread.Ops(op) {
			t.Errorf("Ops(%q): false", op)
		}
	}
	for _, op := range texts("", "+-", "++", dyads, "#", "^", "$", "?", "@", ",", "'", "/", "\\", "`", ".", "0", " +", "+ ", "F", "{") {
		if spread.Ops(op) {
			t.Errorf("Ops(%q): true", op)
		}
	}
}

// faulty is an array with another element at some places.
func faulty(v api.Val, elem string, at ...int) api.Val {
	f := of(v.Shape, slices.Clone(v.Elems)...)
	for _, i := range at {
		f.Elems[i] = elem
	}
	return f
}

func TestErrorsOfElements(t *testing.T) { // P13.1, R1: at the first place, in the middle, at the last one, at some, at all
	for _, s := range [][]int{ints(1), ints(2), ints(5), ints(2, 3), ints(6, 1), ints(2, 2, 2), ints(1, 1, 7), ints(4096)} {
		v := counted(s, 1)
		last := product(s) - 1
		for _, at := range [][]int{{0}, {last / 2}, {last}, {0, last}, {last / 2, last}} {
			for _, op := range texts("%", "!") {
				no(t, op, v, faulty(v, "0", at...), api.ErrDom)
				no(t, op, only("7"), faulty(v, "0", at...), api.ErrDom)
				hold(t, op, faulty(v, "0", at...), v)
			}
			for _, big := range texts(nines(100), "-"+nines(100)) {
				w := faulty(v, big, at...)
				no(t, "+", w, w, api.ErrBig)
				no(t, "*", w, w, api.ErrBig)
				no(t, "*", w, only("-2"), api.ErrBig)
				no(t, "*", only("2"), w, api.ErrBig)
				no(t, "+", w, only(big), api.ErrBig)
				no(t, "-", only(big), faulty(v, strings.TrimPrefix("-"+big, "--"), at...), api.ErrBig)
				for _, op := range signs("%!&|<>=~") {
					hold(t, op, w, v)
				}
			}
		}
		no(t, "%", v, only("0"), api.ErrDom)
		no(t, "!", v, only("0"), api.ErrDom)
		no(t, "+", v, only(nines(100)), api.ErrBig)
		no(t, "-", only("-"+nines(100)), v, api.ErrBig)
	}
	for _, s := range [][]int{nil, ints(1), ints(1, 1), ints(1, 1, 1)} {
		no(t, "%", of(s, "1"), of(s, "0"), api.ErrDom)
		no(t, "!", of(s, "0"), of(s, "0"), api.ErrDom)
		no(t, "*", of(s, nines(100)), of(s, "10"), api.ErrBig)
	}
}

func TestBothErrors(t *testing.T) { // P13.1: where one place is too large for one sign, and another divides by 0 for another one, in either turn, each sign tells its own; no sign has both
	for _, s := range [][]int{ints(2), ints(5), ints(2, 3), ints(3, 1, 3)} {
		for i := range product(s) {
			for j := range product(s) {
				if i == j {
					continue
				}
				v, w := faulty(counted(s, 1), nines(100), i), faulty(faulty(counted(s, 1), nines(100), i), "0", j)
				no(t, "+", v, w, api.ErrBig)
				no(t, "*", v, w, api.ErrBig)
				no(t, "-", v, faulty(w, "-"+nines(100), i), api.ErrBig)
				no(t, "%", v, w, api.ErrDom)
				no(t, "!", v, w, api.ErrDom)
				for _, op := range signs("&|<>=~") {
					hold(t, op, v, w)
				}
			}
		}
	}
	for _, op := range signs(dyads) {
		errs := map[api.Errno]int{}
		for _, a := range numbers() {
			for _, b := range numbers() {
				if _, err := scalar.Dyad(op, a, b); err != api.OK {
					errs[err]++
				}
			}
		}
		if len(errs) > 1 {
			t.Errorf("%s has %v, of which the first one, in turn, is to be told", op, errs)
		}
	}
}

func TestTurnOfErrors(t *testing.T) { // P13.1: ErrArg ahead of the shapes', and that ahead of the elements'
	broken, two, three, zeros := of(ints(2), "1", "x"), row("1 2"), row("1 2 3"), row("0 0 0")
	no(t, "%", broken, zeros, api.ErrArg)
	no(t, "%", zeros, broken, api.ErrArg)
	no(t, "%", broken, only("0"), api.ErrArg)
	no(t, "?", two, three, api.ErrArg)
	no(t, "", two, three, api.ErrArg)
	no(t, "+-", three, zeros, api.ErrArg)
	no(t, "%", two, zeros, api.ErrShape)
	no(t, "!", of(ints(1), "0"), zeros, api.ErrShape)
	no(t, "!", zeros, of(ints(3, 1), "0", "0", "0"), api.ErrShape)
	no(t, "*", row(nines(100)+" "+nines(100)), filled(ints(2, 2), nines(100)), api.ErrShape)
	no(t, "%", three, zeros, api.ErrDom)
	no(t, "%", of(ints(3), "1", "01", "1"), row("0 1 1"), api.ErrArg) // behind a place with an error
	no(t, "*", of(ints(2), nines(100), "-0"), row("2 2"), api.ErrArg)
	no(t, "*", row("2 2"), of(ints(2), nines(100), nines(101)), api.ErrArg)
	no(t, "%", row("1 2"), of(ints(2), "0"), api.ErrArg)
}

// item is an array's i-th item; one of no axis stands for itself at each.
func item(t *testing.T, v api.Val, i int) api.Val {
	t.Helper()
	if len(v.Shape) == 0 {
		return v
	}
	x, ok := val.Item(v, i)
	if !ok {
		t.Fatalf("item %d of %s: none", i, short(v))
	}
	return x
}

// holdItems holds what comes out of two arrays, one of which has an axis, against what comes out of their items; an error, against that of the first items that have one.
func holdItems(t *testing.T, op string, v, w api.Val) {
	t.Helper()
	many := val.Many(v)
	if len(v.Shape) == 0 {
		many = val.Many(w)
	}
	got, err := spread.Dyad(op, v, w)
	first := api.OK
	for i := range many {
		want, e := spread.Dyad(op, item(t, v, i), item(t, w, i))
		if err == api.OK && (e != api.OK || !like(item(t, got, i), want)) {
			t.Errorf("item %d of %s %s %s: %s, and of the items %s, %d", i, short(v), op, short(w), short(got), short(want), e)
		}
		if first == api.OK {
			first = e
		}
	}
	if first != err {
		t.Errorf("%s %s %s: %d, and of the items %d", short(v), op, short(w), err, first)
	}
}

func TestItems(t *testing.T) { // P13.2
	r := random(9)
	for _, s := range small() {
		if len(s) == 0 { // an array of no axis is its only item
			continue
		}
		for range 12 {
			v, w, alone := r.array(s), r.array(s), r.array(nil)
			for _, op := range signs(dyads) {
				holdItems(t, op, v, w)
				holdItems(t, op, v, alone)
				holdItems(t, op, alone, v)
			}
			for _, op := range signs(monads) {
				got, _ := spread.Monad(op, v)
				for i := range s[0] {
					if want, err := spread.Monad(op, item(t, v, i)); err != api.OK || !like(item(t, got, i), want) {
						t.Errorf("item %d of %s %s: %s, and of the item %s, %d", i, op, short(v), short(got), short(want), err)
					}
				}
			}
		}
	}
	v, _ := spread.Dyad("*", of(ints(2, 3), "1", "2", "3", "4", "5", "6"), only("-2")) // written out
	if x, ok := val.Item(v, 1); !ok || !like(x, row("-8 -10 -12")) {
		t.Errorf("item 1 of %s: %s", short(v), short(x))
	}
}

func TestNoElement(t *testing.T) { // P13.2: it comes out so, whatever the sign, and whatever the array of no axis
	for _, s := range slices.Concat(small(), hollow()) {
		if product(s) > 0 {
			continue
		}
		v := of(s)
		for _, op := range signs(dyads) {
			dyad(t, op, v, v, v, api.OK)
			for _, n := range numbers() {
				dyad(t, op, v, only(n), v, api.OK)
				dyad(t, op, only(n), v, v, api.OK)
			}
		}
		for _, op := range signs(monads) {
			monad(t, op, v, v, api.OK)
		}
	}
}

func TestMonadOfEach(t *testing.T) { // P13.1: arrays of each number of axes, at each place
	for _, v := range good() {
		holdOne(t, v)
	}
	for _, s := range slices.Concat(small(), full()) {
		v := filled(s, "0")
		for _, i := range ints(0, len(v.Elems)/2, len(v.Elems)-1) {
			if i < 0 || i >= len(v.Elems) {
				continue
			}
			x := faulty(v, "-5", i)
			monad(t, "-", x, faulty(v, "5", i), api.OK)
			monad(t, "*", x, faulty(v, "-1", i), api.OK)
			monad(t, "~", x, faulty(filled(s, "1"), "0", i), api.OK)
		}
	}
}

func TestNilAndEmpty(t *testing.T) { // R2: of shapes, and of elements
	for _, s := range [][]int{nil, {}, make([]int, 0, 5)} {
		for _, r := range [][]int{nil, {}, make([]int, 0, 5)} {
			dyad(t, "-", of(s, "5"), of(r, "3"), only("2"), api.OK)
		}
		dyad(t, "-", of(s, "5"), row("1 2"), row("4 3"), api.OK)
		dyad(t, "-", row("1 2"), of(s, "5"), row("-4 -3"), api.OK)
		monad(t, "-", of(s, "5"), only("-5"), api.OK)
		for _, elems := range [][]string{nil, {}, make([]string, 0, 5)} {
			no(t, "-", of(s, elems...), only("1"), api.ErrArg)
			no(t, "-", only("1"), of(s, elems...), api.ErrArg)
			no(t, "-", of(s, elems...), row("1 2"), api.ErrArg)
			monad(t, "-", of(s, elems...), zero, api.ErrArg)
			for _, hollow := range [][]int{ints(0), ints(3, 0), ints(0, 1, 2)} {
				v := of(hollow, elems...)
				for _, others := range [][]string{nil, {}, make([]string, 0, 5)} {
					dyad(t, "%", v, of(hollow, others...), v, api.OK)
				}
				dyad(t, "%", v, of(s, "0"), v, api.OK)
				dyad(t, "%", of(s, "0"), v, v, api.OK)
				monad(t, "~", v, v, api.OK)
			}
		}
	}
	no(t, string([]byte{}), only("1"), only("2"), api.ErrArg)
}

// spoil writes all over an array, also behind its lists' ends.
func spoil(v api.Val) {
	axes, elems := v.Shape[:cap(v.Shape)], v.Elems[:cap(v.Elems)]
	for i := range axes {
		axes[i] = -77
	}
	for i := range elems {
		elems[i] = "spoilt"
	}
}

// copied is an array of its own, with room behind its lists.
func copied(v api.Val) api.Val {
	return of(append(make([]int, 0, len(v.Shape)+4), v.Shape...), append(make([]string, 0, len(v.Elems)+4), v.Elems...)...)
}

// room is an array with all that is behind its lists.
func room(v api.Val) api.Val {
	return of(v.Shape[:cap(v.Shape)], v.Elems[:cap(v.Elems)]...)
}

// some are pairs of arrays that meet, and of which one may not be, or has an error.
func some() [][2]api.Val {
	l := [][2]api.Val{{only("5"), only("3")}, {row("1 2"), of(ints(2), "1", "x")}, {row("1 2"), row("1 0")}, {row("1 2"), row("1 2 3")}, {row(nines(100)), row(nines(100))}, {of(ints(-1)), only("1")}}
	for _, s := range [][]int{ints(0), ints(1), ints(4), ints(2, 3), ints(0, 3), ints(2, 1, 2), ints(3, 0, 1)} {
		l = append(l, [2]api.Val{counted(s, 1), counted(s, 9)}, [2]api.Val{counted(s, 1), only("3")}, [2]api.Val{only("3"), counted(s, 1)})
	}
	return l
}

func TestWhatIsHandedInStays(t *testing.T) { // R3: also behind its lists' ends, and if it is handed in twice, and what is told is written over
	for _, pair := range some() {
		for _, op := range append(signs(dyads), "", "?") {
			v, w := copied(pair[0]), copied(pair[1])
			keptV, keptW := copied(room(v)), copied(room(w))
			for _, ask := range []func() (api.Val, api.Errno){
				func() (api.Val, api.Errno) { return spread.Dyad(op, v, w) },
				func() (api.Val, api.Errno) { return spread.Dyad(op, v, v) },
				func() (api.Val, api.Errno) { return spread.Dyad(op, w, w) },
				func() (api.Val, api.Errno) { return spread.Monad(op, v) },
			} {
				told, _ := ask()
				spoil(told)
				if !like(room(v), keptV) || !like(room(w), keptW) {
					t.Fatalf("%s and %s are %s and %s behind %s", short(pair[0]), short(pair[1]), short(v), short(w), op)
				}
			}
		}
	}
}

func TestWhatIsToldStays(t *testing.T) { // R3: what was handed in is written over then, and so is what is told once more
	for _, pair := range some() {
		for _, op := range signs(dyads) {
			v, w := copied(pair[0]), copied(pair[1])
			two, _ := spread.Dyad(op, v, w)
			one, _ := spread.Monad(op, v)
			twice, _ := spread.Dyad(op, v, v)
			keptTwo, keptOne, keptTwice := copied(two), copied(one), copied(twice)
			again, _ := spread.Dyad(op, v, w)
			spoil(again)
			again, _ = spread.Monad(op, v)
			spoil(again)
			spoil(v)
			spoil(w)
			if !like(two, keptTwo) || !like(one, keptOne) || !like(twice, keptTwice) {
				t.Errorf("of %s and %s %s told %s, %s and %s then", short(pair[0]), short(pair[1]), op, short(two), short(one), short(twice))
			}
		}
	}
}

func TestAnswersHangOnNothingElse(t *testing.T) { // R4: asked again in reverse, from four sides at once
	type answer struct {
		two, one api.Val
		ops      bool
		errs     [2]api.Errno
	}
	var asks []func() answer
	for _, pair := range some() {
		for _, op := range append(signs(dyads), "", "?", "+-") {
			asks = append(asks, func() (a answer) {
				a.two, a.errs[0] = spread.Dyad(op, pair[0], pair[1])
				a.one, a.errs[1] = spread.Monad(op, pair[0])
				a.ops = spread.Ops(op)
				return a
			})
		}
	}
	var first []answer
	for _, ask := range asks {
		first = append(first, ask())
	}
	var all sync.WaitGroup
	for range 4 {
		all.Go(func() {
			for i, ask := range slices.Backward(asks) {
				if a := ask(); !like(a.two, first[i].two) || !like(a.one, first[i].one) || a.ops != first[i].ops || a.errs != first[i].errs {
					t.Errorf("%v, then %v", first[i], a)
				}
			}
		})
	}
	all.Wait()
}

func TestNothingBesideErrors(t *testing.T) { // R1: an answer is an array that may be, or an error alone
	l := slices.Concat(good()[:120], bad()[:40])
	r := random(2)
	for _, v := range l {
		for range 60 {
			w := l[r.below(len(l))]
			op := append(signs(dyads), "", "?", "+-")[r.below(len(dyads)+3)]
			if got, err := spread.Dyad(op, v, w); val.May(got) != (err == api.OK) || err != api.OK && !like(got, zero) {
				t.Errorf("%s %s %s: %s, %d", short(v), long(op), short(w), short(got), err)
			}
			if got, err := spread.Monad(op, v); val.May(got) != (err == api.OK) || err != api.OK && !like(got, zero) {
				t.Errorf("%s %s: %s, %d", long(op), short(v), short(got), err)
			}
		}
	}
}
