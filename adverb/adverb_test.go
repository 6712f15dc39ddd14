package adverb_test

import (
	"slices"
	"strconv"
	"strings"
	"testing"

	"reredos/adverb"
	"reredos/api"
	"reredos/prim"
	"reredos/val"
)

// The calls, with the exact signatures that the chapter lists.
var (
	_ func(f prim.Verb, v api.Val) (api.Val, api.Errno)    = adverb.Each
	_ func(f prim.Verb, v api.Val) (api.Val, api.Errno)    = adverb.Reduce
	_ func(f prim.Verb, v api.Val) (api.Val, api.Errno)    = adverb.Scan
	_ func(f prim.Verb, v api.Val) (api.Val, api.Errno)    = adverb.Prior
	_ func(f prim.Verb, v, w api.Val) (api.Val, api.Errno) = adverb.Both
	_ func(f prim.Verb, v, w api.Val) (api.Val, api.Errno) = adverb.Outer
)

// wrong is whether something was told that shouldn't be.
var wrong bool

// leaveIfWrong leaves arrays of so many items that a call that goes wrong may go through them for days.
func leaveIfWrong(t *testing.T) {
	t.Helper()
	if wrong {
		t.Skip("what is told of other arrays is wrong already")
	}
}

// tells asks for what an adverb makes of a verb, of one array or two; what it is may be, whenever it is an array.
func tells(t *testing.T, name string, f prim.Verb, v, w, want api.Val, wantErr api.Errno) {
	t.Helper()
	got, err := named(name).do(f, v, w)
	if !like(got, want) || err != wantErr || err == api.OK && !val.May(got) {
		wrong = true
		t.Errorf("%s of %v, %s: %s, %d; not %s, %d", name, verbs(f), short(v, w), short(got), err, short(want), wantErr)
	}
}

// verbs is a verb as it is told where something is wrong.
func verbs(f prim.Verb) string {
	switch x := f.(type) {
	case prim.Sign:
		return strconv.Quote(string(x))
	case *spy:
		return "a spy that was asked " + strconv.Quote(strings.Join(x.asked[:min(len(x.asked), 12)], "; "))
	}
	return "another verb"
}

// asks asks a spy, and holds what it was asked, in turn, against what it should have been.
func asks(t *testing.T, name string, s *spy, v, w, want api.Val, wantErr api.Errno, asked ...string) {
	t.Helper()
	tells(t, name, s, v, w, want, wantErr)
	if !slices.Equal(s.asked, asked) {
		wrong = true
		t.Errorf("%s of %s: asked %q, not %q", name, short(v, w), s.asked, asked)
	}
}

// hold holds a call of a sign against the chapter's words.
func hold(t *testing.T, c call, op string, v, w api.Val) {
	t.Helper()
	want, err := c.said(prim.Sign(op), v, w)
	tells(t, c.name, prim.Sign(op), v, w, want, err)
}

// holdSpy holds a call of a spy against them, and what the spy is asked.
func holdSpy(t *testing.T, c call, make func() *spy, v, w api.Val) {
	t.Helper()
	s, other := make(), make()
	want, err := c.said(other, v, w)
	asks(t, c.name, s, v, w, want, err, other.asked...)
}

func TestExamples(t *testing.T) { // the chapter's
	tells(t, "Prior", prim.Sign("-"), row("1 3 6"), zero, row("1 2 3"), api.OK)
	tells(t, "Reduce", prim.Sign("+"), row("1 3 6"), zero, only("10"), api.OK)
	tells(t, "Scan", prim.Sign("+"), row("1 3 6"), zero, row("1 4 10"), api.OK)
}

// one is what a call of one array tells of a sign.
type one struct {
	op      string
	v, want api.Val
	err     api.Errno
}

// two is what a call of two arrays tells so.
type two struct {
	op         string
	v, w, want api.Val
	err        api.Errno
}

func TestEach(t *testing.T) { // P17.1: written out, of no axis, of one, two and three, with and without an item
	m, cube := grid(ints(2, 3), "3 1 2 0 5 4"), grid(ints(2, 1, 2), "5 0 -7 8")
	for _, c := range []one{
		{"-", only("5"), only("-5"), api.OK}, {"!", only("3"), row("0 1 2"), api.OK}, {",", only("5"), row("5"), api.OK}, {"#", only("5"), only("1"), api.OK}, {"=", only("5"), row(""), api.OK}, {"<", only("5"), zero, api.ErrRank}, {"%", only("5"), zero, api.ErrArg}, {"!", only("-1"), zero, api.ErrDom}, {"!", only("4097"), zero, api.ErrBig},
		{"-", row("1 -2 0"), row("-1 2 0"), api.OK}, {"~", row("1 -2 0"), row("0 0 1"), api.OK}, {"-", row("7"), row("-7"), api.OK}, {",", row("1 2 3"), grid(ints(3, 1), "1 2 3"), api.OK}, {"#", row("4 5 6"), row("1 1 1"), api.OK}, {"=", row("4 5"), of(ints(2, 0)), api.OK}, {"|", row("4 5"), row("4 5"), api.OK}, {"!", row("2 2 2"), grid(ints(3, 2), "0 1 0 1 0 1"), api.OK}, {"!", row("0 0"), of(ints(2, 0)), api.OK}, {"!", row("3"), grid(ints(1, 3), "0 1 2"), api.OK},
		{"!", row("2 3"), zero, api.ErrShape}, {"!", row("2 2 3"), zero, api.ErrShape}, {"!", row("2 3 -1"), zero, api.ErrDom}, {"!", row("-1 2 3"), zero, api.ErrDom}, {"!", row("2 4097 -1"), zero, api.ErrBig}, {"!", row("4096"), counted(ints(1, 4096), 0), api.OK}, {"!", row("4096 4096"), zero, api.ErrBig}, {"!", row("4096 4095"), zero, api.ErrShape}, {"<", row("1 2"), zero, api.ErrRank}, {"%", row("1"), zero, api.ErrArg}, {"^", row("1 2"), zero, api.ErrArg}, {"F", row("1 2"), zero, api.ErrArg},
		{"-", m, grid(ints(2, 3), "-3 -1 -2 0 -5 -4"), api.OK}, {"#", m, row("3 3"), api.OK}, {"=", m, grid(ints(2, 1), "3 3"), api.OK}, {",", m, m, api.OK}, {"|", m, grid(ints(2, 3), "2 1 3 4 5 0"), api.OK}, {"+", m, m, api.OK}, {"<", m, grid(ints(2, 3), "1 2 0 0 2 1"), api.OK}, {">", m, grid(ints(2, 3), "0 2 1 1 2 0"), api.OK}, {"&", m, zero, api.ErrShape}, {"&", grid(ints(2, 2), "1 1 0 2"), grid(ints(2, 2), "0 1 1 1"), api.OK}, {"?", m, m, api.OK}, {"?", grid(ints(2, 2), "1 1 0 2"), zero, api.ErrShape}, {"!", m, zero, api.ErrRank},
		{"-", cube, grid(ints(2, 1, 2), "-5 0 7 -8"), api.OK}, {",", cube, grid(ints(2, 2), "5 0 -7 8"), api.OK}, {"+", cube, grid(ints(2, 2, 1), "5 0 -7 8"), api.OK}, {"=", cube, grid(ints(2, 2), "1 2 1 2"), api.OK}, {"#", cube, row("1 1"), api.OK}, {"|", grid(ints(1, 2, 2), "1 2 3 4"), grid(ints(1, 2, 2), "3 4 1 2"), api.OK}, {"<", cube, zero, api.ErrRank},
		{"-", row(""), row(""), api.OK}, {"%", row(""), row(""), api.OK}, {"#", of(ints(0, 3)), of(ints(0, 3)), api.OK}, {"=", of(ints(0, 0)), of(ints(0, 0)), api.OK}, {"", of(ints(0, 2, 2)), of(ints(0, 2, 2)), api.OK}, {"+", of(ints(0, 2, 3)), of(ints(0, 2, 3)), api.OK},
		{"-", of(ints(3, 0)), of(ints(3, 0)), api.OK}, {"#", of(ints(3, 0)), row("0 0 0"), api.OK}, {"=", of(ints(3, 0)), grid(ints(3, 1), "0 0 0"), api.OK}, {"%", of(ints(3, 0)), zero, api.ErrArg}, {",", of(ints(2, 3, 0)), of(ints(2, 0)), api.OK}, {"+", of(ints(2, 3, 0)), of(ints(2, 0, 3)), api.OK}, {"#", of(ints(2, 0, 3)), row("0 0"), api.OK},
	} {
		tells(t, "Each", prim.Sign(c.op), c.v, zero, c.want, c.err)
	}
}

func TestReduce(t *testing.T) { // P17.1: the first one, and the next one to its right, again and again
	m, cube := grid(ints(3, 2), "9 8 2 3 4 1"), grid(ints(2, 1, 2), "5 0 -7 8")
	for _, c := range []one{
		{"+", only("5"), only("5"), api.OK}, {"-", only("5"), only("5"), api.OK}, {"F", only("5"), only("5"), api.OK},
		{"+", row("1 3 6"), only("10"), api.OK}, {"-", row("10 3 2"), only("5"), api.OK}, {"%", row("100 7 2"), only("7"), api.OK}, {"%", row("100 -7 2"), only("-8"), api.OK}, {"!", row("17 10 4"), only("3"), api.OK}, {"*", row("2 3 4 5"), only("120"), api.OK}, {"&", row("4 2 3"), only("2"), api.OK}, {"|", row("4 2 7 3"), only("7"), api.OK}, {"<", row("1 2 3"), only("1"), api.OK}, {"=", row("3 3 1"), only("1"), api.OK}, {"~", row("3 3 1"), only("1"), api.OK},
		{"-", row("7"), only("7"), api.OK}, {"F", row("7"), only("7"), api.OK}, {",", row("7"), only("7"), api.OK}, {",", row("7 8 9"), row("7 8 9"), api.OK}, {"#", row("2 5"), row("5 5"), api.OK}, {"#", row("2 5 3"), filled(ints(5, 5), "3"), api.OK}, {"#", row("2 65 3"), zero, api.ErrBig}, {"^", row("2 5"), zero, api.ErrRank}, {"F", row("7 8"), zero, api.ErrArg},
		{"%", row("7 0"), zero, api.ErrDom}, {"%", row("7 2 0 1"), zero, api.ErrDom}, {"+", row(nines(100) + " 1 -1"), zero, api.ErrBig}, {"+", row(nines(100) + " -1 1"), only(nines(100)), api.OK}, {"*", row("2 " + nines(100) + " 0"), zero, api.ErrBig},
		{"+", m, row("15 12"), api.OK}, {"-", m, row("3 4"), api.OK}, {"%", m, row("1 2"), api.OK}, {",", m, row("9 8 2 3 4 1"), api.OK}, {"-", grid(ints(1, 3), "4 5 6"), row("4 5 6"), api.OK}, {"@", grid(ints(2, 3), "5 6 7 2 0 2"), row("7 5 7"), api.OK}, {"@", grid(ints(2, 3), "5 6 7 2 0 3"), zero, api.ErrIndex}, {"?", grid(ints(2, 2), "5 6 6 7"), row("1 2"), api.OK}, {"#", grid(ints(2, 2), "1 2 7 8"), grid(ints(1, 2), "7 8"), api.OK}, {"^", m, zero, api.ErrRank},
		{"-", cube, grid(ints(1, 2), "12 -8"), api.OK}, {",", cube, grid(ints(2, 2), "5 0 -7 8"), api.OK}, {"%", cube, grid(ints(1, 2), "-1 0"), api.OK}, {"%", grid(ints(2, 2, 1), "5 6 1 0"), zero, api.ErrDom},
		{"+", row(""), only("0"), api.OK}, {"*", row(""), only("1"), api.OK}, {"+", of(ints(0, 3)), zero, api.ErrDom}, {"*", of(ints(0, 0)), zero, api.ErrDom}, {"+", of(ints(0, 1, 1)), zero, api.ErrDom}, {"*", of(ints(0, 0, 2)), zero, api.ErrDom}, {"-", of(ints(0, 3)), zero, api.ErrDom}, {"-", of(ints(0, 2, 2)), zero, api.ErrDom},
		{"+", of(ints(3, 0)), row(""), api.OK}, {",", of(ints(3, 0)), row(""), api.OK}, {",", of(ints(3, 2, 0)), of(ints(6, 0)), api.OK}, {",", of(ints(3, 0, 2)), of(ints(0, 2)), api.OK}, {"F", of(ints(1, 0)), row(""), api.OK}, {"F", of(ints(2, 0)), zero, api.ErrArg}, {"#", of(ints(2, 0)), zero, api.ErrDom},
	} {
		tells(t, "Reduce", prim.Sign(c.op), c.v, zero, c.want, c.err)
	}
	for _, op := range append(signs(twos), "", "F", "++") {
		if op != "+" && op != "*" {
			tells(t, "Reduce", prim.Sign(op), row(""), zero, zero, api.ErrDom)
		}
	}
}

func TestScan(t *testing.T) { // P17.1: the first one, and all that Reduce comes by
	m := grid(ints(3, 2), "9 8 2 3 4 1")
	for _, c := range []one{
		{"+", only("5"), only("5"), api.OK}, {"F", only("5"), only("5"), api.OK},
		{"+", row("1 3 6"), row("1 4 10"), api.OK}, {"-", row("10 3 2"), row("10 7 5"), api.OK}, {"%", row("100 7 2"), row("100 14 7"), api.OK}, {"!", row("17 10 4"), row("17 7 3"), api.OK}, {"=", row("3 3 3"), row("3 1 0"), api.OK}, {"-", row("7"), row("7"), api.OK}, {",", row("7"), row("7"), api.OK}, {"F", row("7"), row("7"), api.OK},
		{",", row("7 8"), zero, api.ErrShape}, {",", row("7 8 9"), zero, api.ErrShape}, {"F", row("7 8"), zero, api.ErrArg}, {"%", row("8 2 0 1"), zero, api.ErrDom}, {"+", row(nines(100) + " 1"), zero, api.ErrBig}, {"#", row("2 3 4"), zero, api.ErrShape}, {"#", row("2 65 3"), zero, api.ErrBig},
		{"+", m, grid(ints(3, 2), "9 8 11 11 15 12"), api.OK}, {"-", m, grid(ints(3, 2), "9 8 7 5 3 4"), api.OK}, {",", m, zero, api.ErrShape}, {",", grid(ints(1, 2), "7 8"), grid(ints(1, 2), "7 8"), api.OK}, {"@", grid(ints(3, 2), "5 6 1 0 1 1"), grid(ints(3, 2), "5 6 6 5 5 5"), api.OK}, {"?", grid(ints(2, 2), "5 6 6 7"), grid(ints(2, 2), "5 6 1 2"), api.OK}, {"%", grid(ints(2, 2), "5 6 1 0"), zero, api.ErrDom},
		{"-", grid(ints(2, 1, 2), "5 0 -7 8"), grid(ints(2, 1, 2), "5 0 12 -8"), api.OK}, {",", grid(ints(2, 1, 2), "5 0 -7 8"), zero, api.ErrShape},
		{"+", row(""), row(""), api.OK}, {"-", row(""), row(""), api.OK}, {"F", of(ints(0, 3)), of(ints(0, 3)), api.OK}, {"*", of(ints(0, 0, 2)), of(ints(0, 0, 2)), api.OK}, {"*", of(ints(0, 3, 2)), of(ints(0, 3, 2)), api.OK},
		{"+", of(ints(3, 0)), of(ints(3, 0)), api.OK}, {",", of(ints(3, 0)), of(ints(3, 0)), api.OK}, {",", of(ints(3, 2, 0)), zero, api.ErrShape}, {",", of(ints(3, 0, 2)), of(ints(3, 0, 2)), api.OK}, {"F", of(ints(1, 0)), of(ints(1, 0)), api.OK}, {"F", of(ints(2, 0)), zero, api.ErrArg},
	} {
		tells(t, "Scan", prim.Sign(c.op), c.v, zero, c.want, c.err)
	}
}

func TestPrior(t *testing.T) { // P17.1: the first one itself, and of each other one what it is to the left of the one ahead of it
	m := grid(ints(3, 2), "1 2 4 6 9 15")
	for _, c := range []one{
		{"-", only("5"), only("5"), api.OK}, {"F", only("5"), only("5"), api.OK},
		{"-", row("1 3 6"), row("1 2 3"), api.OK}, {"%", row("2 10 31"), row("2 5 3"), api.OK}, {"!", row("3 10 14"), row("3 1 4"), api.OK}, {">", row("5 6 6 7"), row("5 1 0 1"), api.OK}, {"-", row("7"), row("7"), api.OK}, {"F", row("7"), row("7"), api.OK},
		{"%", row("0 1"), zero, api.ErrDom}, {"%", row("1 0"), row("1 0"), api.OK}, {"%", row("1 0 2"), zero, api.ErrDom}, {"%", row("1 2 0 3 4"), zero, api.ErrDom}, {"+", row("1 " + nines(100)), zero, api.ErrBig}, {",", row("7 8"), zero, api.ErrShape}, {"#", row("1 2 3"), zero, api.ErrShape}, {"#", row("7 1 -1"), zero, api.ErrDom}, {"F", row("7 8"), zero, api.ErrArg},
		{"-", m, grid(ints(3, 2), "1 2 3 4 5 9"), api.OK}, {",", m, zero, api.ErrShape}, {"?", grid(ints(2, 2), "5 6 6 7"), grid(ints(2, 2), "5 6 2 0"), api.OK}, {"@", grid(ints(2, 2), "1 0 5 6"), grid(ints(2, 2), "1 0 6 5"), api.OK}, {"@", grid(ints(2, 2), "5 6 1 0"), zero, api.ErrIndex},
		{"-", grid(ints(2, 1, 2), "5 0 -7 8"), grid(ints(2, 1, 2), "5 0 -12 8"), api.OK}, {"-", grid(ints(1, 2, 1), "5 0"), grid(ints(1, 2, 1), "5 0"), api.OK},
		{"-", row(""), row(""), api.OK}, {"F", row(""), row(""), api.OK}, {"-", of(ints(0, 3)), of(ints(0, 3)), api.OK}, {"-", of(ints(0, 3, 2)), of(ints(0, 3, 2)), api.OK}, {"-", of(ints(3, 0)), of(ints(3, 0)), api.OK}, {",", of(ints(2, 1, 0)), zero, api.ErrShape}, {"F", of(ints(2, 0)), zero, api.ErrArg},
	} {
		tells(t, "Prior", prim.Sign(c.op), c.v, zero, c.want, c.err)
	}
}

func TestBoth(t *testing.T) { // P17.2: item with item, and what has no axis with each, at its side
	m, cube := grid(ints(2, 3), "1 2 3 4 5 6"), grid(ints(2, 1, 2), "5 0 -7 8")
	for _, c := range []two{
		{"-", only("5"), only("3"), only("2"), api.OK}, {",", only("5"), only("3"), row("5 3"), api.OK}, {"#", only("3"), only("5"), row("5 5 5"), api.OK}, {"%", only("5"), only("0"), zero, api.ErrDom}, {"F", only("5"), only("3"), zero, api.ErrArg}, {"^", only("1"), only("3"), zero, api.ErrRank},
		{"-", only("5"), row("1 2 3"), row("4 3 2"), api.OK}, {"-", row("1 2 3"), only("5"), row("-4 -3 -2"), api.OK}, {",", only("5"), row("1 2 3"), grid(ints(3, 2), "5 1 5 2 5 3"), api.OK}, {",", row("1 2 3"), only("5"), grid(ints(3, 2), "1 5 2 5 3 5"), api.OK}, {"#", only("2"), row("7 8"), grid(ints(2, 2), "7 7 8 8"), api.OK}, {"#", row("2 2"), only("7"), grid(ints(2, 2), "7 7 7 7"), api.OK}, {"#", row("1 2"), only("7"), zero, api.ErrShape}, {"%", row("4 6"), only("0"), zero, api.ErrDom}, {"%", only("4"), row("1 0"), zero, api.ErrDom}, {"F", row("1"), only("5"), zero, api.ErrArg}, {"-", row("4"), only("1"), row("3"), api.OK},
		{"^", only("2"), m, grid(ints(2, 2), "1 2 4 5"), api.OK}, {"^", only("-1"), m, grid(ints(2, 1), "3 6"), api.OK}, {"$", only("1"), m, grid(ints(2, 2), "2 3 5 6"), api.OK}, {"@", m, only("1"), row("2 5"), api.OK}, {"?", m, only("2"), row("1 3"), api.OK}, {",", m, only("0"), grid(ints(2, 4), "1 2 3 0 4 5 6 0"), api.OK}, {",", only("0"), m, grid(ints(2, 4), "0 1 2 3 0 4 5 6"), api.OK}, {"-", cube, only("1"), grid(ints(2, 1, 2), "4 -1 -8 7"), api.OK}, {"-", only("1"), cube, grid(ints(2, 1, 2), "-4 1 8 -7"), api.OK}, {"@", cube, only("0"), grid(ints(2, 2), "5 0 -7 8"), api.OK}, {"@", m, only("3"), zero, api.ErrIndex},
		{"-", row("5 6"), row("1 4"), row("4 2"), api.OK}, {",", row("5 6"), row("1 4"), grid(ints(2, 2), "5 1 6 4"), api.OK}, {"-", row("5"), row("4"), row("1"), api.OK}, {"#", row("2 2"), row("7 8"), grid(ints(2, 2), "7 7 8 8"), api.OK}, {"#", row("2 1"), row("7 8"), zero, api.ErrShape}, {"%", row("5 6"), row("1 0"), zero, api.ErrDom}, {"+", row("1 " + nines(100)), row("1 1"), zero, api.ErrBig},
		{"-", m, row("1 2"), grid(ints(2, 3), "0 1 2 2 3 4"), api.OK}, {"-", row("1 2"), m, grid(ints(2, 3), "0 -1 -2 -2 -3 -4"), api.OK}, {"^", row("1 -1"), m, grid(ints(2, 1), "1 6"), api.OK}, {"^", row("1 2"), m, zero, api.ErrShape}, {"-", m, m, filled(ints(2, 3), "0"), api.OK}, {",", m, grid(ints(2, 1), "7 8"), grid(ints(2, 4), "1 2 3 7 4 5 6 8"), api.OK}, {"-", m, grid(ints(2, 1), "7 8"), zero, api.ErrShape}, {"@", m, grid(ints(2, 2), "2 0 1 1"), grid(ints(2, 2), "3 1 5 5"), api.OK}, {"-", cube, row("1 2"), grid(ints(2, 1, 2), "4 -1 -9 6"), api.OK}, {"-", cube, cube, filled(ints(2, 1, 2), "0"), api.OK}, {",", cube, grid(ints(2, 2, 2), "1 1 1 1 2 2 2 2"), grid(ints(2, 3, 2), "5 0 1 1 1 1 -7 8 2 2 2 2"), api.OK},
		{"-", row("1 2"), row("1 2 3"), zero, api.ErrShape}, {"%", row("1 2"), row("0"), zero, api.ErrShape}, {"F", row("1 2"), row("0"), zero, api.ErrShape}, {"-", m, row("1 2 3"), zero, api.ErrShape}, {"-", row("1"), m, zero, api.ErrShape}, {"-", cube, row("1"), zero, api.ErrShape}, {"-", row(""), row("1"), zero, api.ErrShape}, {"-", row("1"), row(""), zero, api.ErrShape}, {"-", of(ints(0, 3)), m, zero, api.ErrShape}, {"F", m, of(ints(0, 3)), zero, api.ErrShape},
		{"-", row(""), row(""), row(""), api.OK}, {"F", of(ints(0, 3)), row(""), of(ints(0, 3)), api.OK}, {"-", row(""), of(ints(0, 3)), row(""), api.OK}, {"-", of(ints(0, 3)), of(ints(0, 2, 2)), of(ints(0, 3)), api.OK}, {"-", of(ints(0, 2, 2)), of(ints(0, 3)), of(ints(0, 2, 2)), api.OK}, {"-", row(""), only("5"), row(""), api.OK}, {"-", only("5"), row(""), row(""), api.OK}, {"F", only("5"), of(ints(0, 3)), of(ints(0, 3)), api.OK}, {"%", of(ints(0, 2, 3)), only("0"), of(ints(0, 2, 3)), api.OK},
		{"-", of(ints(2, 0)), of(ints(2, 0)), of(ints(2, 0)), api.OK}, {"-", of(ints(2, 0)), row("1 2"), of(ints(2, 0)), api.OK}, {",", of(ints(2, 0)), row("1 2"), grid(ints(2, 1), "1 2"), api.OK}, {",", only("5"), of(ints(2, 0)), grid(ints(2, 1), "5 5"), api.OK}, {"F", only("5"), of(ints(2, 0)), zero, api.ErrArg},
		{"#", grid(ints(2, 3), "1 1 1 1 1 1"), only("5"), zero, api.ErrRank}, {"#", grid(ints(2, 3), "1 1 1 1 1 2"), only("5"), zero, api.ErrShape}, {"#", grid(ints(1, 3), "1 1 1"), only("5"), zero, api.ErrRank}, {"#", grid(ints(2, 2), "1 2 1 2"), row("5 6"), grid(ints(2, 1, 2), "5 5 6 6"), api.OK}, {"#", row("2048 2048"), only("5"), filled(ints(2, 2048), "5"), api.OK}, {"#", row("2049 2049"), only("5"), zero, api.ErrBig}, {"#", row("2049 2048"), only("5"), zero, api.ErrShape}, {"#", row("2049 2048 -1"), only("5"), zero, api.ErrDom},
	} {
		tells(t, "Both", prim.Sign(c.op), c.v, c.w, c.want, c.err)
	}
}

func TestOuter(t *testing.T) { // P17.2: each item to the left, whole, with each to the right
	m, cube := grid(ints(2, 3), "1 2 3 4 5 6"), grid(ints(2, 1, 2), "5 0 -7 8")
	for _, c := range []two{
		{"-", row("1 2"), row("10 20 30"), grid(ints(2, 3), "-9 -19 -29 -8 -18 -28"), api.OK}, {"-", row("5"), row("3"), grid(ints(1, 1), "2"), api.OK}, {"-", row("5 6 7"), row("3"), grid(ints(3, 1), "2 3 4"), api.OK}, {"-", row("5"), row("3 4"), grid(ints(1, 2), "2 1"), api.OK}, {",", row("1 2"), row("3 4"), grid(ints(2, 2, 2), "1 3 1 4 2 3 2 4"), api.OK}, {"#", row("2 2"), row("7 8"), grid(ints(2, 2, 2), "7 7 8 8 7 7 8 8"), api.OK}, {"#", row("1 2"), row("7 8"), zero, api.ErrShape}, {"%", row("6 8"), row("3 0"), zero, api.ErrDom}, {"%", row("6 0"), row("3 2"), grid(ints(2, 2), "2 3 0 0"), api.OK},
		{"-", m, row("1 2"), grid(ints(2, 2, 3), "0 1 2 -1 0 1 3 4 5 2 3 4"), api.OK}, {"-", row("1 2"), m, grid(ints(2, 2, 3), "0 -1 -2 -3 -4 -5 1 0 -1 -2 -3 -4"), api.OK}, {"@", m, row("2 0"), grid(ints(2, 2), "3 1 6 4"), api.OK}, {"^", row("1 -1"), m, grid(ints(2, 2, 1), "1 4 3 6"), api.OK}, {"^", row("1 2"), m, zero, api.ErrShape}, {"-", m, m, grid(ints(2, 2, 3), "0 0 0 -3 -3 -3 3 3 3 0 0 0"), api.OK}, {"?", m, m, grid(ints(2, 2, 3), "0 1 2 3 3 3 3 3 3 0 1 2"), api.OK}, {",", m, m, grid(ints(2, 2, 6), "1 2 3 1 2 3 1 2 3 4 5 6 4 5 6 1 2 3 4 5 6 4 5 6"), api.OK}, {"-", m, grid(ints(2, 2), "1 2 3 4"), zero, api.ErrShape}, {"?", m, grid(ints(2, 2), "1 2 6 4"), grid(ints(2, 2, 2), "0 1 3 3 3 3 2 0"), api.OK},
		{"-", cube, row("1"), zero, api.ErrRank}, {"#", cube, row("1"), zero, api.ErrRank}, {"@", cube, row("0 0"), grid(ints(2, 2, 2), "5 0 5 0 -7 8 -7 8"), api.OK}, {"-", row("1"), cube, zero, api.ErrRank}, {"@", cube, row("0 1"), zero, api.ErrIndex}, {"-", cube, cube, zero, api.ErrRank}, {"?", cube, m, zero, api.ErrRank}, {",", cube, m, zero, api.ErrRank},
		{"-", only("5"), only("3"), only("2"), api.OK}, {"-", only("5"), row("1 2 3"), row("4 3 2"), api.OK}, {"-", only("5"), m, grid(ints(2, 3), "4 3 2 1 0 -1"), api.OK}, {"^", only("1"), m, grid(ints(2, 1), "1 4"), api.OK}, {"-", only("5"), row(""), row(""), api.OK}, {"F", only("5"), of(ints(0, 3)), of(ints(0, 3)), api.OK}, {"%", only("5"), only("0"), zero, api.ErrDom}, {"%", only("5"), row("1 0"), zero, api.ErrDom}, {",", only("5"), grid(ints(2, 1), "7 8"), grid(ints(2, 2), "5 7 5 8"), api.OK},
		{"-", row("1 2 3"), only("5"), row("-4 -3 -2"), api.OK}, {"@", m, only("1"), row("2 5"), api.OK}, {",", m, only("0"), grid(ints(2, 4), "1 2 3 0 4 5 6 0"), api.OK}, {"-", cube, only("1"), grid(ints(2, 1, 2), "4 -1 -8 7"), api.OK}, {"#", row("1 2"), only("7"), zero, api.ErrShape}, {"%", row("1 2"), only("0"), zero, api.ErrDom}, {"F", row("1"), only("0"), zero, api.ErrArg},
		{"-", row(""), row("1 2"), row(""), api.OK}, {"F", of(ints(0, 3)), row("1 2"), of(ints(0, 3)), api.OK}, {"-", of(ints(0, 3)), cube, of(ints(0, 3)), api.OK}, {"-", of(ints(0, 2, 2)), only("1"), of(ints(0, 2, 2)), api.OK}, {"-", of(ints(0, 3)), row(""), of(ints(0, 3)), api.OK}, {"-", row(""), of(ints(0, 3)), row(""), api.OK},
		{"-", row("1 2"), row(""), of(ints(2, 0)), api.OK}, {"F", row("1 2 3"), of(ints(0, 3)), of(ints(3, 0, 3)), api.OK}, {"-", m, row(""), of(ints(2, 0)), api.OK}, {"-", cube, of(ints(0, 3)), of(ints(2, 0, 3)), api.OK}, {"-", row("1 2"), of(ints(0, 3, 2)), zero, api.ErrRank}, {"F", row("1"), of(ints(0, 0, 0)), zero, api.ErrRank}, {"%", row("0 0"), row(""), of(ints(2, 0)), api.OK},
		{"-", of(ints(2, 0)), row("1 2 3"), of(ints(2, 3, 0)), api.OK}, {"-", row("1 2"), of(ints(3, 0)), of(ints(2, 3, 0)), api.OK}, {"#", of(ints(2, 0)), row("7 8"), grid(ints(2, 2), "7 8 7 8"), api.OK}, {",", of(ints(2, 0)), of(ints(2, 0)), of(ints(2, 2, 0)), api.OK}, {"F", of(ints(2, 0)), of(ints(2, 0)), zero, api.ErrArg},
	} {
		tells(t, "Outer", prim.Sign(c.op), c.v, c.w, c.want, c.err)
	}
}
