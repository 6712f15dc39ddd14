package prim_test

import (
	"slices"
	"strings"
	"sync"
	"testing"

	"reredos/api"
	"reredos/prim"
	"reredos/scalar"
	"reredos/val"
)

// The calls, with the exact signatures that the chapter lists, as methods of a text's type, and as what a Verb has.
var (
	_ func(s prim.Sign, v api.Val) (api.Val, api.Errno)    = prim.Sign.One
	_ func(s prim.Sign, v, w api.Val) (api.Val, api.Errno) = prim.Sign.Two
	_ func(s prim.Sign) (api.Val, bool)                    = prim.Sign.Unit
	_ func(s prim.Verb, v api.Val) (api.Val, api.Errno)    = prim.Verb.One
	_ func(s prim.Verb, v, w api.Val) (api.Val, api.Errno) = prim.Verb.Two
	_ func(s prim.Verb) (api.Val, bool)                    = prim.Verb.Unit
	_ prim.Verb                                            = prim.Sign("+") // P16.3
	_ prim.Verb                                            = others{}
)

const _ prim.Sign = "a text"

// others has what a Verb has, and nothing more: that is enough.
type others struct{}

func (others) One(v api.Val) (api.Val, api.Errno)    { return v, api.OK }
func (others) Two(v, w api.Val) (api.Val, api.Errno) { return w, api.OK }
func (others) Unit() (api.Val, bool)                 { return zero, false }

// one asks for what a sign makes of one array; what it is may be, whenever it is an array.
func one(t *testing.T, op string, v, want api.Val, wantErr api.Errno) {
	t.Helper()
	got, err := prim.Sign(op).One(v)
	if !like(got, want) || err != wantErr || err == api.OK && !val.May(got) {
		t.Errorf("%s %s: %s, %d; not %s, %d", long(op), short(v), short(got), err, short(want), wantErr)
	}
}

// two asks so of two.
func two(t *testing.T, op string, v, w, want api.Val, wantErr api.Errno) {
	t.Helper()
	got, err := prim.Sign(op).Two(v, w)
	if !like(got, want) || err != wantErr || err == api.OK && !val.May(got) {
		t.Errorf("%s %s %s: %s, %d; not %s, %d", short(v), long(op), short(w), short(got), err, short(want), wantErr)
	}
}

// holdOne holds each sign of one array against the call that the chapter names for it.
func holdOne(t *testing.T, v api.Val) {
	t.Helper()
	for _, op := range ones() {
		want, err := named(op, v)
		one(t, op, v, want, err)
	}
}

// hold holds each of two so, both ways round.
func hold(t *testing.T, v, w api.Val) {
	t.Helper()
	for _, op := range twos() {
		want, err := namedOfTwo(op, v, w)
		two(t, op, v, w, want, err)
		want, err = namedOfTwo(op, w, v)
		two(t, op, w, v, want, err)
	}
}

func TestExample(t *testing.T) { // the chapter's
	two(t, "+", row("1 2"), row("3 4"), row("4 6"), api.OK)
	one(t, "+", row("1"), row("1"), api.OK)
	one(t, "+", only("1"), only("1"), api.OK)
}

func TestEachSignOfOne(t *testing.T) { // P16.1: written out, of no axis, of one, two and three, and of none
	m, cube := grid(ints(2, 3), "0 -2 3 4 0 6"), grid(ints(2, 1, 2), "5 0 -7 8")
	for _, c := range []struct {
		op      string
		v, want api.Val
		err     api.Errno
	}{
		{"-", only("5"), only("-5"), api.OK}, {"-", row("1 -2 0"), row("-1 2 0"), api.OK}, {"-", m, grid(ints(2, 3), "0 2 -3 -4 0 -6"), api.OK}, {"-", cube, grid(ints(2, 1, 2), "-5 0 7 -8"), api.OK}, {"-", of(ints(0, 3)), of(ints(0, 3)), api.OK},
		{"~", only("5"), only("0"), api.OK}, {"~", row("1 -2 0"), row("0 0 1"), api.OK}, {"~", m, grid(ints(2, 3), "1 0 0 0 1 0"), api.OK}, {"~", cube, grid(ints(2, 1, 2), "0 1 0 0"), api.OK}, {"~", row(""), row(""), api.OK},
		{"*", only("5"), only("1"), api.OK}, {"*", row("1 -2 0"), row("1 -1 0"), api.OK}, {"*", m, grid(ints(2, 3), "0 -1 1 1 0 1"), api.OK}, {"*", cube, grid(ints(2, 1, 2), "1 0 -1 1"), api.OK},
		{"!", only("5"), row("0 1 2 3 4"), api.OK}, {"!", only("0"), row(""), api.OK}, {"!", only("-1"), zero, api.ErrDom}, {"!", only("4097"), zero, api.ErrBig}, {"!", only(power(60)), zero, api.ErrDom}, {"!", row("5"), zero, api.ErrRank}, {"!", m, zero, api.ErrRank}, {"!", cube, zero, api.ErrRank},
		{"#", only("5"), only("1"), api.OK}, {"#", row("7 8 9"), only("3"), api.OK}, {"#", m, only("2"), api.OK}, {"#", cube, only("2"), api.OK}, {"#", of(ints(furthest, 0)), only("1099511627776"), api.OK},
		{"=", only("5"), row(""), api.OK}, {"=", row("7 8 9"), row("3"), api.OK}, {"=", m, row("2 3"), api.OK}, {"=", cube, row("2 1 2"), api.OK},
		{",", only("5"), row("5"), api.OK}, {",", row("7 8 9"), row("7 8 9"), api.OK}, {",", m, row("0 -2 3 4 0 6"), api.OK}, {",", cube, row("5 0 -7 8"), api.OK}, {",", of(ints(3, 0)), row(""), api.OK},
		{"|", only("5"), only("5"), api.OK}, {"|", row("7 8 9"), row("9 8 7"), api.OK}, {"|", m, grid(ints(2, 3), "4 0 6 0 -2 3"), api.OK}, {"|", cube, grid(ints(2, 1, 2), "-7 8 5 0"), api.OK},
		{"+", only("5"), only("5"), api.OK}, {"+", row("7 8 9"), row("7 8 9"), api.OK}, {"+", m, grid(ints(3, 2), "0 4 -2 0 3 6"), api.OK}, {"+", cube, grid(ints(2, 1, 2), "5 -7 0 8"), api.OK}, {"+", of(ints(0, 3)), of(ints(3, 0)), api.OK},
		{"<", row("30 10 20"), row("1 2 0"), api.OK}, {"<", row(""), row(""), api.OK}, {"<", only("5"), zero, api.ErrRank}, {"<", m, zero, api.ErrRank}, {"<", cube, zero, api.ErrRank},
		{">", row("30 10 20"), row("0 2 1"), api.OK}, {">", row("1 1"), row("0 1"), api.OK}, {">", only("5"), zero, api.ErrRank}, {">", m, zero, api.ErrRank}, {">", cube, zero, api.ErrRank},
		{"&", row("0 2 1"), row("1 1 2"), api.OK}, {"&", row("0 0"), row(""), api.OK}, {"&", row("1 -1"), zero, api.ErrDom}, {"&", row("4096 1"), zero, api.ErrBig}, {"&", only("5"), zero, api.ErrRank}, {"&", m, zero, api.ErrRank},
		{"?", row("3 1 3 2 1"), row("3 1 2"), api.OK}, {"?", row(""), row(""), api.OK}, {"?", only("5"), zero, api.ErrRank}, {"?", cube, zero, api.ErrRank},
	} {
		one(t, c.op, c.v, c.want, c.err)
	}
}

func TestEachSignThatSpreads(t *testing.T) { // P16.2: written out, of no axis, of one, two and three, to either side
	v, w := row("7 -7 2 5"), row("2 2 7 5")
	for _, c := range []struct{ op, both, right, left string }{ // v and w, v and 3, 3 and w
		{"+", "9 -5 9 10", "10 -4 5 8", "5 5 10 8"}, {"-", "5 -9 -5 0", "4 -10 -1 2", "1 1 -4 -2"}, {"*", "14 -14 14 25", "21 -21 6 15", "6 6 21 15"}, {"%", "3 -4 0 1", "2 -3 0 1", "1 1 0 0"}, {"!", "1 1 2 0", "1 2 2 2", "1 1 3 3"}, {"&", "2 -7 2 5", "3 -7 2 3", "2 2 3 3"},
		{"|", "7 2 7 5", "7 3 3 5", "3 3 7 5"}, {"<", "0 1 1 0", "0 1 1 0", "0 0 1 1"}, {">", "1 0 0 0", "1 0 0 1", "1 1 0 0"}, {"=", "0 0 0 1", "0 0 0 0", "0 0 0 0"}, {"~", "1 1 1 0", "1 1 1 1", "1 1 1 1"},
	} {
		for _, s := range [][]int{ints(4), ints(2, 2), ints(4, 1), ints(1, 4), ints(2, 1, 2), ints(1, 2, 2)} {
			two(t, c.op, of(s, v.Elems...), of(s, w.Elems...), grid(s, c.both), api.OK)
			two(t, c.op, of(s, v.Elems...), only("3"), grid(s, c.right), api.OK)
			two(t, c.op, only("3"), of(s, w.Elems...), grid(s, c.left), api.OK)
			two(t, c.op, of(s, v.Elems...), row("1 2 3"), zero, api.ErrShape)
			two(t, c.op, of(s, v.Elems...), grid(ints(1, 1, 1), "3"), zero, api.ErrShape)
		}
		for i := range v.Elems {
			two(t, c.op, only(v.Elems[i]), only(w.Elems[i]), only(strings.Fields(c.both)[i]), api.OK)
		}
	}
	for _, op := range texts("%", "!") {
		two(t, op, row("1 2"), row("1 0"), zero, api.ErrDom)
		two(t, op, row("1 2"), only("0"), zero, api.ErrDom)
	}
	two(t, "*", row("2 "+nines(100)), row("2 2"), zero, api.ErrBig)
	two(t, "+", only(nines(100)), only("1"), zero, api.ErrBig)
	two(t, "-", only("-"+nines(100)), only("1"), zero, api.ErrBig)
}

func TestEachOtherSignOfTwo(t *testing.T) { // P16.2: written out, of no axis, of one, two and three
	m, cube := grid(ints(3, 2), "1 2 3 4 5 6"), grid(ints(2, 1, 2), "5 0 -7 8")
	for _, c := range []struct {
		op         string
		v, w, want api.Val
		err        api.Errno
	}{
		{"#", row("2 3"), row("0 1 2 3 4 5"), grid(ints(2, 3), "0 1 2 3 4 5"), api.OK}, {"#", only("3"), only("7"), row("7 7 7"), api.OK}, {"#", row(""), m, only("1"), api.OK}, {"#", row("2 1 2"), m, grid(ints(2, 1, 2), "1 2 3 4"), api.OK}, {"#", row("0 3"), row(""), of(ints(0, 3)), api.OK}, {"#", m, m, zero, api.ErrRank}, {"#", row("1 1 1 1"), m, zero, api.ErrRank}, {"#", row("-1"), m, zero, api.ErrDom}, {"#", only("2"), row(""), zero, api.ErrDom}, {"#", row("64 65"), m, zero, api.ErrBig},
		{"^", only("2"), row("7 8 9"), row("7 8"), api.OK}, {"^", only("-2"), row("7 8 9"), row("8 9"), api.OK}, {"^", only("1"), m, grid(ints(1, 2), "1 2"), api.OK}, {"^", only("-1"), cube, grid(ints(1, 1, 2), "-7 8"), api.OK}, {"^", only("4"), m, zero, api.ErrIndex}, {"^", only("1"), only("7"), zero, api.ErrRank}, {"^", row("1"), m, zero, api.ErrRank}, {"^", only(nines(99)), m, zero, api.ErrDom},
		{"$", only("2"), row("7 8 9"), row("9"), api.OK}, {"$", only("-2"), row("7 8 9"), row("7"), api.OK}, {"$", only("1"), m, grid(ints(2, 2), "3 4 5 6"), api.OK}, {"$", only("-1"), cube, grid(ints(1, 1, 2), "5 0"), api.OK}, {"$", only("4"), m, of(ints(0, 2)), api.OK}, {"$", only("1"), only("7"), zero, api.ErrRank}, {"$", row("1"), m, zero, api.ErrRank},
		{",", only("1"), only("2"), row("1 2"), api.OK}, {",", row("1 2"), only("3"), row("1 2 3"), api.OK}, {",", only("0"), row("1 2"), row("0 1 2"), api.OK}, {",", row("3"), row("1 2"), row("3 1 2"), api.OK}, {",", m, grid(ints(1, 2), "7 8"), grid(ints(4, 2), "1 2 3 4 5 6 7 8"), api.OK}, {",", cube, cube, grid(ints(4, 1, 2), "5 0 -7 8 5 0 -7 8"), api.OK}, {",", m, row("7 8"), zero, api.ErrRank}, {",", m, grid(ints(1, 3), "7 8 9"), zero, api.ErrShape}, {",", filled(ints(4096), "1"), only("1"), zero, api.ErrBig},
		{"?", row("5 6 5"), row("5 7 6"), row("0 3 1"), api.OK}, {"?", row("5 6"), only("6"), only("1"), api.OK}, {"?", row("5 6"), cube, grid(ints(2, 1, 2), "0 2 2 2"), api.OK}, {"?", row(""), row("1"), row("0"), api.OK}, {"?", m, only("1"), zero, api.ErrRank}, {"?", only("1"), only("1"), zero, api.ErrRank},
		{"@", row("7 8 9"), only("2"), only("9"), api.OK}, {"@", row("7 8 9"), row("2 0"), row("9 7"), api.OK}, {"@", m, only("1"), row("3 4"), api.OK}, {"@", m, row("2 0"), grid(ints(2, 2), "5 6 1 2"), api.OK}, {"@", cube, only("1"), grid(ints(1, 2), "-7 8"), api.OK}, {"@", row("7 8"), grid(ints(1, 1, 2), "1 0"), grid(ints(1, 1, 2), "8 7"), api.OK}, {"@", only("7"), only("0"), zero, api.ErrRank}, {"@", m, only("3"), zero, api.ErrIndex}, {"@", m, only("-1"), zero, api.ErrIndex}, {"@", m, only(power(20)), zero, api.ErrDom}, {"@", cube, grid(ints(1, 1), "0"), zero, api.ErrRank}, {"@", filled(ints(4096), "1"), filled(ints(2, 3), "0"), filled(ints(2, 3), "1"), api.OK}, {"@", filled(ints(2, 2048), "1"), row("0 0 0"), zero, api.ErrBig},
	} {
		two(t, c.op, c.v, c.w, c.want, c.err)
	}
}

func TestOneIsTheCallThatIsNamed(t *testing.T) { // P16.1: with its errors
	for _, v := range slices.Concat(good(), vectors(), bad()) {
		holdOne(t, v)
	}
	for _, n := range texts("2", "100", "4095", "4096", "4097", "4098", "1099511627776", "-2", "-4097") {
		holdOne(t, only(n))
		holdOne(t, of(ints(1), n))
		holdOne(t, of(ints(2), n, "1"))
		holdOne(t, of(ints(1, 1), n))
	}
}

func TestTwoIsTheCallThatIsNamed(t *testing.T) { // P16.2: with its errors, each two shapes
	r := random(3)
	for _, s := range slices.Concat(small(), hollow()) {
		v := r.array(s)
		for i, other := range slices.Concat(small(), hollow()) {
			if i%2 == r.below(2) {
				hold(t, v, filled(other, "1"))
			} else {
				hold(t, v, r.array(other))
			}
		}
		hold(t, v, r.array(s))
		hold(t, v, v)
	}
	for _, s := range append(small(), ints(4096), ints(64, 64), ints(16, 16, 16), ints(furthest, 0), ints(0, furthest, furthest)) {
		v := r.array(s)
		for _, n := range texts("0", "1", "-1", "2", "-2", "3", "-4", "4096", "4097", "-4096", "1099511627776", "1099511627777", "-"+nines(100)) {
			hold(t, v, only(n))
			hold(t, v, of(ints(1), n))
		}
		for _, l := range texts("", "0", "2 3", "3 2", "1 1 1", "2 0 3", "64 64", "64 65", "1 2 3 4", "0 -1", "1 0", "0 0 0 0 0", "-1 2") {
			hold(t, v, row(l))
		}
	}
}

func TestMaxCells(t *testing.T) { // P16.2: of as many elements as there may be, to either side and to both
	r := random(4)
	for _, s := range full() {
		hold(t, r.array(s), counted(s, 0))
		hold(t, counted(s, 0), filled(s, "0"))
		for _, other := range [][]int{ints(4096), ints(64, 64), ints(1, 1, 4096), ints(4095)} {
			hold(t, r.array(s), counted(other, 0))
		}
	}
	for _, v := range vectors() {
		hold(t, v, r.shuffled(v))
		hold(t, v, r.upTo(len(v.Elems), len(v.Elems)+1))
	}
}

func TestMayNotBe(t *testing.T) { // R1, R5: ErrArg, as the one, as the other, and as both
	fine := []api.Val{only("0"), only("7"), only("-1"), only(nines(100)), row(""), row("0"), row("1 2"), row("-1 4097"), grid(ints(2, 3), "1 2 3 4 5 6"), of(ints(3, 0)), of(ints(furthest, 0)), grid(ints(1, 1, 1), "0"), filled(ints(4096), "1")}
	l := bad()
	for i, v := range l {
		for _, op := range append(ones(), "", "^", "+-") {
			one(t, op, v, zero, api.ErrArg)
		}
		for j, op := range append(twos(), "", "a", "+-") {
			two(t, op, v, v, zero, api.ErrArg)
			two(t, op, v, l[(7*i+3*j)%len(l)], zero, api.ErrArg)
			for k := range 4 {
				w := fine[(i+j+3*k)%len(fine)]
				two(t, op, v, w, zero, api.ErrArg)
				two(t, op, w, v, zero, api.ErrArg)
			}
		}
	}
}

func TestSignsOfTheOtherAlone(t *testing.T) { // P16.1, P16.2: of one array, or of two, they mean nothing
	fine := []api.Val{only("0"), only("1"), row(""), row("0 1"), row("1"), grid(ints(2, 1), "0 1"), grid(ints(1, 1, 2), "0 1"), of(ints(0, 3)), of(ints(furthest, 0)), filled(ints(4096), "1")}
	for _, v := range append(fine, bad()...) {
		for _, op := range texts("^", "$", "@", "%") {
			one(t, op, v, zero, api.ErrArg)
		}
	}
	for _, op := range append(ones(), twos()...) {
		ofOne, ofTwo := slices.Contains(ones(), op), slices.Contains(twos(), op)
		_, err := prim.Sign(op).One(row("0"))
		_, alone := prim.Sign(op).One(only("1"))
		if ofOne != (err != api.ErrArg) || ofOne != (alone != api.ErrArg) {
			t.Errorf("%s of one array: %d, %d", op, err, alone)
		}
		_, err = prim.Sign(op).Two(row("0"), row("0"))
		_, alone = prim.Sign(op).Two(only("1"), only("1"))
		if ofTwo != (err != api.ErrArg) || ofTwo != (alone != api.ErrArg) {
			t.Errorf("%s of two arrays: %d, %d", op, err, alone)
		}
	}
}

func TestNoSigns(t *testing.T) { // P16.1, P16.2: other texts, whatever the arrays
	l := []api.Val{only("0"), only("2"), row(""), row("1 2"), row("0 1"), grid(ints(2, 2), "0 1 0 1"), grid(ints(1, 1, 1), "0"), of(ints(0, 3)), of(ints(furthest, 0)), filled(ints(4096), "1"), zero, of(ints(2), "1", "x"), of(ints(-1)), of(ints(3), "1")}
	for _, op := range noSigns() {
		for i, v := range l {
			one(t, op, v, zero, api.ErrArg)
			two(t, op, v, v, zero, api.ErrArg)
			two(t, op, v, l[(i+1)%len(l)], zero, api.ErrArg)
			two(t, op, l[(i+3)%len(l)], v, zero, api.ErrArg)
		}
		unit(t, op, zero, false)
	}
}

func TestJustTheseSigns(t *testing.T) { // P16.1, P16.2: of all texts of up to two bytes, and of those the chapters list
	all := texts("")
	for i := range 256 {
		all = append(all, string([]byte{byte(i)}))
		for j := range 256 {
			all = append(all, string([]byte{byte(i), byte(j)}))
		}
	}
	var one, two, units []string
	for _, op := range all {
		s := prim.Sign(op)
		if _, err := s.One(row("0 1")); err != api.ErrArg {
			one = append(one, op)
		}
		if _, err := s.Two(row("0 1"), row("1 1")); err != api.ErrArg {
			two = append(two, op)
		}
		if _, ok := s.Unit(); ok {
			units = append(units, op)
		}
	}
	for _, c := range []struct {
		call      string
		got, want []string
	}{{"One", one, ones()}, {"Two", two, twos()}, {"Unit", units, texts("+", "*")}, {"scalar.Monads", signs(scalar.Monads()), signs(spreadOnes)}, {"scalar.Dyads", signs(scalar.Dyads()), signs(spreadTwos)}} {
		got, want := slices.Sorted(slices.Values(c.got)), slices.Sorted(slices.Values(c.want))
		if !slices.Equal(got, want) {
			t.Errorf("%s does something of %q, not of %q", c.call, got, want)
		}
	}
}

// unit asks for what a sign makes of nothing.
func unit(t *testing.T, op string, want api.Val, wantOK bool) {
	t.Helper()
	got, ok := prim.Sign(op).Unit()
	if !like(got, want) || ok != wantOK || ok && !val.May(got) {
		t.Errorf("%s of nothing: %s, %t; not %s, %t", long(op), short(got), ok, short(want), wantOK)
	}
}

func TestUnit(t *testing.T) { // P16.2
	unit(t, "+", only("0"), true)
	unit(t, "*", only("1"), true)
	for _, op := range append(ones(), twos()...) {
		if op != "+" && op != "*" {
			unit(t, op, zero, false)
		}
		number, ok := scalar.Unit(op)
		if got, has := prim.Sign(op).Unit(); has != ok || ok && !like(got, only(number)) || !ok && !like(got, zero) {
			t.Errorf("%s of nothing: %s, %t, and of numbers %q, %t", op, short(got), has, number, ok)
		}
	}
}

func TestUnitLeavesArrays(t *testing.T) { // P16.3: to the left and to the right, and again and again
	for _, op := range twos() {
		nothing, ok := prim.Sign(op).Unit()
		if !ok {
			continue
		}
		for _, v := range slices.Concat(good(), vectors(), []api.Val{nothing}) {
			two(t, op, nothing, v, v, api.OK)
			two(t, op, v, nothing, v, api.OK)
		}
		for _, v := range bad() {
			two(t, op, nothing, v, zero, api.ErrArg)
			two(t, op, v, nothing, zero, api.ErrArg)
		}
	}
}

func TestSignsAreVerbs(t *testing.T) { // P16.3: what takes a verb takes signs, and others, alike
	twice := func(verb prim.Verb, v api.Val) (api.Val, api.Errno) {
		w, err := verb.One(v)
		if err != api.OK {
			return zero, err
		}
		return verb.Two(v, w)
	}
	for _, c := range []struct {
		verb prim.Verb
		want api.Val
		err  api.Errno
	}{
		{prim.Sign("+"), row("6 2 4"), api.OK}, {prim.Sign("-"), row("6 2 4"), api.OK}, {prim.Sign("|"), row("3 1 3"), api.OK}, {prim.Sign(","), row("3 1 2 3 1 2"), api.OK}, {prim.Sign("?"), row("0 1 2"), api.OK}, {prim.Sign("<"), row("0 1 0"), api.OK}, {prim.Sign("%"), zero, api.ErrArg}, {prim.Sign(""), zero, api.ErrArg}, {others{}, row("3 1 2"), api.OK},
	} {
		if got, err := twice(c.verb, row("3 1 2")); !like(got, c.want) || err != c.err {
			t.Errorf("%v twice: %s, %d", c.verb, short(got), err)
		}
	}
}

func TestAsVerbs(t *testing.T) { // P16.3: a sign tells the same as a verb
	for _, op := range append(append(ones(), twos()...), noSigns()...) {
		var verb prim.Verb = prim.Sign(op)
		for _, l := range some() {
			want, wantErr := prim.Sign(op).One(l[0])
			if got, err := verb.One(l[0]); !like(got, want) || err != wantErr {
				t.Errorf("%s %s: %s, %d, and as a verb %s, %d", long(op), short(l[0]), short(want), wantErr, short(got), err)
			}
			want, wantErr = prim.Sign(op).Two(l[0], l[1])
			if got, err := verb.Two(l[0], l[1]); !like(got, want) || err != wantErr {
				t.Errorf("%s of %s: %s, %d, and as a verb %s, %d", long(op), short(l[:]...), short(want), wantErr, short(got), err)
			}
		}
		want, wantOK := prim.Sign(op).Unit()
		if got, ok := verb.Unit(); !like(got, want) || ok != wantOK {
			t.Errorf("%s of nothing: %s, %t, and as a verb %s, %t", long(op), short(want), wantOK, short(got), ok)
		}
	}
}

func TestNilAndEmpty(t *testing.T) { // R2: of shapes, and of elements
	for _, s := range [][]int{nil, {}, make([]int, 0, 5)} {
		one(t, "-", of(s, "5"), only("-5"), api.OK)
		one(t, "!", of(s, "2"), row("0 1"), api.OK)
		one(t, "=", of(s, "2"), row(""), api.OK)
		two(t, "-", of(s, "5"), of(s, "3"), only("2"), api.OK)
		two(t, "#", of(s, "2"), of(s, "3"), row("3 3"), api.OK)
		two(t, "@", row("7 8"), of(s, "1"), only("8"), api.OK)
		for _, elems := range [][]string{nil, {}, make([]string, 0, 5)} {
			for _, op := range ones() {
				one(t, op, of(s, elems...), zero, api.ErrArg)
				want, err := named(op, row(""))
				one(t, op, of(ints(0), elems...), want, err)
			}
			for _, op := range twos() {
				two(t, op, of(s, elems...), only("1"), zero, api.ErrArg)
				two(t, op, only("1"), of(s, elems...), zero, api.ErrArg)
				for _, w := range []api.Val{only("0"), row(""), row("0 1"), of(ints(0, 2))} {
					want, err := namedOfTwo(op, row(""), w)
					two(t, op, of(ints(0), elems...), w, want, err)
					want, err = namedOfTwo(op, w, row(""))
					two(t, op, w, of(ints(0), elems...), want, err)
				}
			}
		}
	}
	empty := string([]byte{})
	one(t, empty, only("1"), zero, api.ErrArg)
	two(t, empty, only("1"), only("1"), zero, api.ErrArg)
	unit(t, empty, zero, false)
}

// spoil writes all over an array, also behind its lists' ends.
func spoil(v api.Val) {
	axes, elems := v.Shape[:cap(v.Shape)], v.Elems[:cap(v.Elems)]
	for i := range axes {
		axes[i] = -77
	}
	for i := range elems {
		elems[i] = "spoilt"
	}
}

// copied is an array of its own, with room behind its lists.
func copied(v api.Val) api.Val {
	return of(append(make([]int, 0, len(v.Shape)+4), v.Shape...), append(make([]string, 0, len(v.Elems)+4), v.Elems...)...)
}

// room is an array with all that is behind its lists.
func room(v api.Val) api.Val {
	return of(v.Shape[:cap(v.Shape)], v.Elems[:cap(v.Elems)]...)
}

// some are pairs of arrays of which something comes out of one sign or more, or of which one may not be, or has an error.
func some() [][2]api.Val {
	l := [][2]api.Val{{only("5"), only("3")}, {only("2"), row("7 8 9")}, {row("2 3"), row("0 1 2 3 4 5")}, {row("5 6 7"), row("2 0")}, {row("1 2"), of(ints(2), "1", "x")}, {row("1 2"), row("1 0")}, {row("1 2"), row("1 2 3")}, {row(nines(100)), row(nines(100))}, {of(ints(-1)), only("1")}, {row("30 10 20"), row("20 7")}, {row("0 2 1"), only("0")}, {only("-1"), grid(ints(3, 2), "1 2 3 4 5 6")}, {grid(ints(3, 2), "1 2 3 4 5 6"), row("2 0")}, {grid(ints(3, 2), "1 2 3 4 5 6"), grid(ints(1, 2), "7 8")}}
	for _, s := range [][]int{ints(0), ints(1), ints(4), ints(2, 3), ints(0, 3), ints(2, 1, 2), ints(3, 0, 1)} {
		l = append(l, [2]api.Val{counted(s, 1), counted(s, 0)}, [2]api.Val{counted(s, 1), only("1")}, [2]api.Val{only("1"), counted(s, 1)})
	}
	return l
}

// answers are those of all signs, and of some that are none, to two arrays, each in each place, and the same one in both, and to nothing.
func answers(l [2]api.Val) (told []api.Val, errs []api.Errno) {
	for _, op := range append(slices.Compact(slices.Sorted(slices.Values(append(ones(), twos()...)))), "", "+-", "a") {
		s := prim.Sign(op)
		for _, v := range l {
			x, err := s.One(v)
			told, errs = append(told, x), append(errs, err)
			for _, w := range l {
				x, err := s.Two(v, w)
				told, errs = append(told, x), append(errs, err)
			}
		}
		x, ok := s.Unit()
		err := api.ErrArg
		if ok {
			err = api.OK
		}
		told, errs = append(told, x), append(errs, err)
	}
	return told, errs
}

func TestWhatIsHandedInStays(t *testing.T) { // R3: also behind its lists' ends, and if it is handed in twice, and what is told is written over
	for _, l := range some() {
		own := [2]api.Val{copied(l[0]), copied(l[1])}
		kept := [2]api.Val{copied(room(own[0])), copied(room(own[1]))}
		all, _ := answers(own)
		for i := -1; i < len(all); i++ { // ahead of what is written over, and behind each
			if i >= 0 {
				spoil(all[i])
			}
			for j, v := range own {
				if !like(room(v), kept[j]) {
					t.Fatalf("%s: the array %d is %s behind answer %d", short(l[:]...), j, short(v), i)
				}
			}
		}
	}
}

func TestWhatIsToldStays(t *testing.T) { // R3: what was handed in is written over then, and so is what is told once more, and what else was told
	for _, l := range some() {
		own := [2]api.Val{copied(l[0]), copied(l[1])}
		all, _ := answers(own)
		var kept []api.Val
		for _, told := range all {
			kept = append(kept, copied(told))
		}
		again, _ := answers(own)
		for _, told := range again {
			spoil(told)
		}
		for _, v := range own {
			spoil(v)
		}
		for i, told := range all {
			if !like(told, kept[i]) {
				t.Errorf("answer %d to %s was %s, and is %s", i, short(l[:]...), short(kept[i]), short(told))
			}
			spoil(told)
		}
	}
}

func TestAnswersHangOnNothingElse(t *testing.T) { // R4: asked again in reverse, from four sides at once
	var first [][]api.Val
	var firstErrs [][]api.Errno
	for _, l := range some() {
		told, errs := answers(l)
		first, firstErrs = append(first, told), append(firstErrs, errs)
	}
	var all sync.WaitGroup
	for range 4 {
		all.Go(func() {
			for i, l := range slices.Backward(some()) {
				told, errs := answers(l)
				if !slices.EqualFunc(told, first[i], like) || !slices.Equal(errs, firstErrs[i]) {
					t.Errorf("%s: %v, %v, then %v, %v", short(l[:]...), first[i], firstErrs[i], told, errs)
				}
			}
		})
	}
	all.Wait()
}

func TestNothingBesideErrors(t *testing.T) { // R1, P16.3: an answer is an array that may be, or an error alone
	r := random(2)
	l := append(slices.Concat(good(), bad(), vectors()), row("2 3"), row("4 0"), only("3"), only("-2"), only("4"))
	for _, v := range l {
		for _, w := range []api.Val{l[r.below(len(l))], r.upTo(3, 4)} {
			told, errs := answers([2]api.Val{v, w})
			for i, x := range told {
				if val.May(x) != (errs[i] == api.OK) || errs[i] != api.OK && !like(x, zero) {
					t.Errorf("answer %d to %s and %s: %s, %d", i, short(v), short(w), short(x), errs[i])
				}
			}
		}
	}
}
