package typed_test

import (
	"math"
	"slices"
	"strings"
	"sync"
	"testing"

	"reredos/api"
	"reredos/typed"
	"reredos/val"
)

// The calls and the fields, with the exact signatures that the chapter lists.
var (
	_ func(v api.Val) (typed.Typed, api.Errno)       = typed.Pack
	_ func(t typed.Typed) bool                       = typed.Typed.May
	_ func(t typed.Typed, i int) (int64, bool)       = typed.Typed.At
	_ func(t typed.Typed) (api.Val, bool)            = typed.Typed.Val
	_ func(t typed.Typed, w int) (typed.Typed, bool) = typed.Typed.To
	_ func(t typed.Typed) int                        = typed.Typed.Many
	_ struct {
		Width int
		Shape []int
		Data  string
	} = typed.Typed{}
)

func TestPack(t *testing.T) { // P5.1: the bytes, written out
	for _, c := range []struct {
		v    api.Val
		want typed.Typed
	}{
		{of(nil, "0"), in(8, nil, "\x00")}, {of(nil, "5"), in(8, nil, "\x05")}, {of(nil, "-1"), in(8, nil, "\xff")}, {of(nil, "-2"), in(8, nil, "\xfe")}, {of(nil, "100"), in(8, nil, "d")}, {of(nil, "127"), in(8, nil, "\x7f")}, {of(nil, "-128"), in(8, nil, "\x80")}, {of(nil, "-127"), in(8, nil, "\x81")},
		{of(nil, "128"), in(16, nil, "\x00\x80")}, {of(nil, "-129"), in(16, nil, "\xff\x7f")}, {of(nil, "255"), in(16, nil, "\x00\xff")}, {of(nil, "256"), in(16, nil, "\x01\x00")}, {of(nil, "258"), in(16, nil, "\x01\x02")}, {of(nil, "-256"), in(16, nil, "\xff\x00")}, {of(nil, "32767"), in(16, nil, "\x7f\xff")}, {of(nil, "-32768"), in(16, nil, "\x80\x00")},
		{of(nil, "32768"), in(32, nil, "\x00\x00\x80\x00")}, {of(nil, "-32769"), in(32, nil, "\xff\xff\x7f\xff")}, {of(nil, "16909060"), in(32, nil, "\x01\x02\x03\x04")}, {of(nil, "-16909061"), in(32, nil, "\xfe\xfd\xfc\xfb")}, {of(nil, "2147483647"), in(32, nil, "\x7f\xff\xff\xff")}, {of(nil, "-2147483648"), in(32, nil, "\x80\x00\x00\x00")},
		{of(nil, "2147483648"), in(64, nil, "\x00\x00\x00\x00\x80\x00\x00\x00")}, {of(nil, "-2147483649"), in(64, nil, "\xff\xff\xff\xff\x7f\xff\xff\xff")}, {of(nil, "72623859790382856"), in(64, nil, "\x01\x02\x03\x04\x05\x06\x07\x08")}, {of(nil, "9223372036854775807"), in(64, nil, "\x7f\xff\xff\xff\xff\xff\xff\xff")}, {of(nil, "-9223372036854775808"), in(64, nil, "\x80\x00\x00\x00\x00\x00\x00\x00")},
		{of(ints(2), "1", "-1"), in(8, ints(2), "\x01\xff")}, {of(ints(3), "1", "300", "-2"), in(16, ints(3), "\x00\x01\x01\x2c\xff\xfe")}, {of(ints(2), "-1", "65536"), in(32, ints(2), "\xff\xff\xff\xff\x00\x01\x00\x00")}, {of(ints(2), "4294967296", "-1"), in(64, ints(2), "\x00\x00\x00\x01\x00\x00\x00\x00\xff\xff\xff\xff\xff\xff\xff\xff")},
		{of(ints(2, 3), "1", "2", "3", "4", "5", "6"), in(8, ints(2, 3), "\x01\x02\x03\x04\x05\x06")}, {of(ints(2, 1, 2), "1", "-200", "3", "4"), in(16, ints(2, 1, 2), "\x00\x01\xff\x38\x00\x03\x00\x04")}, {of(ints(1), "7"), in(8, ints(1), "\x07")},
		{of(ints(0)), in(8, ints(0), "")}, {of(ints(2, 0)), in(8, ints(2, 0), "")}, {of(ints(0, 3, 4)), in(8, ints(0, 3, 4), "")}, {of(ints(1<<40, 0)), in(8, ints(1<<40, 0), "")}, {of(ints(4096), slices.Repeat(texts("97"), 4096)...), in(8, ints(4096), strings.Repeat("a", 4096))},
	} {
		if got, err := typed.Pack(c.v); !like(got, c.want) || err != api.OK {
			fault(t, "Pack(%v): %v, %d", c.v, got, err)
		}
	}
}

func TestExample(t *testing.T) { // the chapter's
	if got, err := typed.Pack(val.Ints(ints(1, -1))); err != api.OK || got.Width != api.W8 || !slices.Equal([]byte(got.Data), []byte{1, 255}) {
		fault(t, "1 and -1: %v, %d", got, err)
	}
}

func TestPackOfAll(t *testing.T) { // P5.1: whole arrays, in the least width that all of an array's elements fit
	for _, v := range good() {
		w := needed(v.Elems)
		if got, err := typed.Pack(v); !like(got, in(w, v.Shape, bytesOf(w, v.Elems...))) || err != api.OK {
			fault(t, "Pack(%v): %v, %d", v, got, err)
		}
	}
}

func TestPackAtTheEnds(t *testing.T) { // P5.1: the least and the greatest number of each width, and one beyond, alone and as one of some
	for _, e := range ends() {
		for _, s := range texts(e.least, e.greatest, e.below, e.above) {
			w := e.width
			if s == e.below || s == e.above {
				w *= 2
			}
			for _, v := range []api.Val{of(nil, s), of(ints(1), s), of(ints(3), s, "0", "1"), of(ints(3), "0", s, "1"), of(ints(3), "-1", "1", s), of(ints(1, 2, 1), "0", s)} {
				got, err := typed.Pack(v)
				if w > 64 && (!like(got, zero) || err != api.ErrBig) || w <= 64 && (!like(got, in(w, v.Shape, bytesOf(w, v.Elems...))) || err != api.OK) {
					fault(t, "Pack(%v): %v, %d", v, got, err)
				}
			}
		}
	}
}

func TestPackOfBig(t *testing.T) { // P5.1, R1
	for _, s := range texts("9223372036854775808", "-9223372036854775809", "18446744073709551615", "18446744073709551616", "-18446744073709551616", "18446744073709551621", "340282366920938463463374607431768211456", strings.Repeat("9", 100), "-"+strings.Repeat("9", 100)) {
		for _, v := range []api.Val{of(nil, s), of(ints(1), s), of(ints(3), s, "1", "2"), of(ints(3), "1", s, "2"), of(ints(3), "1", "2", s), of(ints(2, 1, 2), "1", "300", s, "70000")} {
			if got, err := typed.Pack(v); !like(got, zero) || err != api.ErrBig {
				fault(t, "Pack(%v): %v, %d", v, got, err)
			}
		}
	}
}

func TestPackOfWhatMayNotBe(t *testing.T) { // P5.1, R1: ErrArg is named first, also where an element is Big
	for _, v := range bad() {
		if got, err := typed.Pack(v); !like(got, zero) || err != api.ErrArg {
			fault(t, "Pack of %v: %v, %d", v, got, err)
		}
	}
}

func TestMay(t *testing.T) { // P5.1
	for _, c := range some() {
		if !c.May() {
			fault(t, "May of %v: false", c)
		}
	}
	for _, c := range wrong() {
		if c.May() {
			fault(t, "May of %v: true", c)
		}
	}
}

func TestMayOfBytes(t *testing.T) { // P5.1: as many as are needed, one too few, one too many, an element too few and too many
	for _, w := range append(widths(), noWidths()...) {
		for _, s := range [][]int{nil, ints(0), ints(1), ints(3), ints(2, 2), ints(2, 0), ints(2, 1, 3)} {
			many, _ := mayBe(s)
			for n := range 8*(many+1) + 2 {
				want := slices.Contains(widths(), w) && n == many*w/8
				if got := in(w, s, strings.Repeat("\xff", n)).May(); got != want {
					fault(t, "May of %d bits, %v, %d bytes: %v", w, s, n, got)
				}
			}
		}
	}
}

func TestMayOfAny(t *testing.T) { // P5.1, P1, R5: widths, axes and bytes of all kinds together
	r := random(7)
	allWidths := append(noWidths(), slices.Repeat(widths(), 20)...)
	axes := append(slices.Repeat(ints(0, 1, 2, 3), 8), 64, 4096, 4097, -1, -2, 1<<40, 1<<40+1, 1<<32, math.MaxInt, math.MinInt)
	passed := 0
	for range 40000 {
		w := allWidths[r.below(len(allWidths))]
		s := make([]int, r.below(5))
		for i := range s {
			s[i] = axes[r.below(len(axes))]
		}
		many, ok := mayBe(s)
		n := r.below(20)
		if r.below(2) == 0 && w > 0 && w <= 512 {
			n = many * w / 8
		}
		want := ok && slices.Contains(widths(), w) && n == many*w/8
		if want {
			passed++
		}
		hold(t, in(w, s, strings.Repeat("\x80", n)), want)
	}
	if passed < 1000 {
		fault(t, "only %d of them may be", passed)
	}
}

// hold holds May against what is asked for, and that of what may not be nothing is told.
func hold(t *testing.T, c typed.Typed, want bool) {
	t.Helper()
	if c.May() != want {
		fault(t, "May of %v: %v", c, c.May())
	}
	if !want {
		nothing(t, c)
	}
}

// nothing asks for what there isn't of a typed array that may not be.
func nothing(t *testing.T, c typed.Typed) {
	t.Helper()
	if n := c.Many(); n != 0 {
		fault(t, "Many of %v: %d", c, n)
	}
	for _, i := range ints(math.MinInt, -1, 0, 1, 5, math.MaxInt) {
		noElement(t, c, i)
	}
	if v, ok := c.Val(); !likeVal(v, api.Val{}) || ok {
		fault(t, "Val of %v: %v, %v", c, v, ok)
	}
	for _, w := range append(widths(), c.Width, api.Big, 0) {
		noArray(t, c, w)
	}
}

// noElement asks for an element that there isn't.
func noElement(t *testing.T, c typed.Typed, i int) {
	t.Helper()
	if x, ok := c.At(i); x != 0 || ok {
		fault(t, "At(%d) of %v: %d, %v", i, c, x, ok)
	}
}

// noArray asks for a width that there isn't, or that it doesn't fit.
func noArray(t *testing.T, c typed.Typed, w int) {
	t.Helper()
	if d, ok := c.To(w); !like(d, zero) || ok {
		fault(t, "To(%d) of %v: %v, %v", w, c, d, ok)
	}
}

func TestNothingOfWhatMayNotBe(t *testing.T) { // P5.1, P5.2, R1, R5
	for _, c := range wrong() {
		nothing(t, c)
	}
}

func TestMany(t *testing.T) { // P5.1
	for _, c := range []struct {
		t    typed.Typed
		want int
	}{
		{in(8, nil, "a"), 1}, {in(64, ints(), "abcdefgh"), 1}, {in(8, ints(3), "abc"), 3}, {in(16, ints(3), "abcdef"), 3}, {in(16, ints(2, 3), strings.Repeat("a", 12)), 6}, {in(32, ints(2, 3, 4), strings.Repeat("a", 96)), 24}, {in(64, ints(1), "abcdefgh"), 1}, {in(64, ints(4096), strings.Repeat("a", 4096*8)), 4096},
		{in(8, ints(0), ""), 0}, {in(32, ints(5, 0), ""), 0}, {in(64, ints(0, 1<<40, 2), ""), 0},
		{zero, 0}, {in(8, ints(3), "ab"), 0}, {in(16, ints(3), "abc"), 0}, {in(24, ints(1), "abc"), 0}, {in(8, ints(4097), strings.Repeat("a", 4097)), 0},
	} {
		if n := c.t.Many(); n != c.want {
			fault(t, "Many of %v: %d", c.t, n)
		}
	}
	for _, c := range some() {
		if many, _ := mayBe(c.Shape); c.Many() != many {
			fault(t, "Many of %d bits, %v: %d", c.Width, c.Shape, c.Many())
		}
	}
}

func TestAt(t *testing.T) { // P5.1: written out, and at both ends and one beyond
	for _, c := range []struct {
		t    typed.Typed
		want []int64
	}{
		{in(8, nil, "\x05"), []int64{5}}, {in(8, ints(4), "\x00\x7f\x80\xff"), []int64{0, 127, -128, -1}}, {in(8, ints(2, 2), "\x01\x02\x03\x04"), []int64{1, 2, 3, 4}},
		{in(16, ints(5), "\x00\x05\x7f\xff\x80\x00\xff\xff\xff\x00"), []int64{5, 32767, -32768, -1, -256}}, {in(16, ints(2), "\x00\xff\x01\x00"), []int64{255, 256}},
		{in(32, ints(2, 1, 2), "\x01\x02\x03\x04\x80\x00\x00\x00\x7f\xff\xff\xff\xff\xff\xff\xfe"), []int64{16909060, -2147483648, 2147483647, -2}}, {in(32, ints(1), "\x00\x80\x80\x80"), []int64{8421504}},
		{in(64, ints(3), "\x01\x02\x03\x04\x05\x06\x07\x08\x80\x00\x00\x00\x00\x00\x00\x00\x7f\xff\xff\xff\xff\xff\xff\xff"), []int64{72623859790382856, math.MinInt64, math.MaxInt64}}, {in(64, nil, "\x00\xff\xff\xff\xff\xff\xff\xff"), []int64{1<<56 - 1}},
		{in(8, ints(0), ""), nil}, {in(64, ints(3, 0), ""), nil},
	} {
		for i, want := range c.want {
			if x, ok := c.t.At(i); x != want || !ok {
				fault(t, "At(%d) of %v: %d, %v", i, c.t, x, ok)
			}
		}
		many := len(c.want)
		for _, i := range ints(-1, -many, -many-1, many, many+1, len(c.t.Data), 1<<32, math.MinInt, math.MaxInt) {
			if i < 0 || i >= many {
				noElement(t, c.t, i)
			}
		}
	}
}

// told are all elements, by At.
func told(t *testing.T, c typed.Typed) []string {
	t.Helper()
	var l []string
	for i := range c.Many() {
		x, ok := c.At(i)
		if !ok {
			fault(t, "At(%d) of %v: none", i, c)
			return nil
		}
		l = append(l, whole("0").SetInt64(x).String())
	}
	noElement(t, c, -1)
	noElement(t, c, c.Many())
	return l
}

// whatItIs holds At, Val and To against the chapter's words of its bytes.
func whatItIs(t *testing.T, c typed.Typed) {
	t.Helper()
	l := numbersOf(c.Width, c.Data)
	if got := told(t, c); !slices.Equal(got, l) {
		fault(t, "elements of %v: %v", c, got)
	}
	v, ok := c.Val()
	if !likeVal(v, of(c.Shape, l...)) || !ok || !val.May(v) {
		fault(t, "Val of %v: %v, %v", c, v, ok)
	}
	for _, w := range widths() {
		if w < needed(l) {
			noArray(t, c, w)
		} else if d, ok := c.To(w); !like(d, in(w, c.Shape, bytesOf(w, l...))) || !ok {
			fault(t, "To(%d) of %v: %v, %v", w, c, d, ok)
		}
	}
}

func TestAnyBytes(t *testing.T) { // P5.1, P5.2: also those that nothing is packed to
	for _, c := range some() {
		whatItIs(t, c)
	}
}

func TestEachByte(t *testing.T) { // P5.1, P5.2: all that 8 bits are, all that 16 are, and each byte at each place of what is wider
	var eight []byte
	for i := range 256 {
		eight = append(eight, byte(i))
	}
	whatItIs(t, in(8, ints(256), string(eight)))
	for high := 0; high < 256; high += 16 {
		var sixteen []byte
		for i := range 4096 {
			sixteen = append(sixteen, byte(high+i/256), byte(i))
		}
		whatItIs(t, in(16, ints(16, 256), string(sixteen)))
	}
	for _, w := range ints(32, 64) {
		for place := range w / 8 {
			for _, other := range []byte{0, 255, 127, 128} {
				var data []byte
				for i := range 256 {
					x := slices.Repeat([]byte{other}, w/8)
					x[place] = byte(i)
					data = append(data, x...)
				}
				whatItIs(t, in(w, ints(256), string(data)))
			}
		}
	}
}

func TestToWhereOneDoesNotFit(t *testing.T) { // P5.2, R1: one beyond each end alone, wherever it stands
	for _, e := range ends()[:3] {
		for _, from := range widths() {
			if from <= e.width {
				continue
			}
			for place := range 5 {
				l := texts("0", "1", "-1", e.greatest, e.least)
				toEnd(t, from, e.width, l, true)
				l[place] = e.below
				toEnd(t, from, e.width, l, false)
				l[place] = e.above
				toEnd(t, from, e.width, l, false)
			}
		}
	}
}

// toEnd asks for numbers in a width, of another one.
func toEnd(t *testing.T, from, w int, l []string, ok bool) {
	t.Helper()
	for _, s := range [][]int{ints(len(l)), ints(1, len(l)), ints(len(l), 1, 1)} {
		c := in(from, s, bytesOf(from, l...))
		if !ok {
			noArray(t, c, w)
		} else if d, ok := c.To(w); !like(d, in(w, s, bytesOf(w, l...))) || !ok {
			fault(t, "To(%d) of %v: %v, %v", w, c, d, ok)
		}
	}
}

func TestToWritten(t *testing.T) { // P5.2
	for _, c := range []struct {
		t    typed.Typed
		want typed.Typed
	}{
		{in(8, ints(2), "\x01\xff"), in(16, ints(2), "\x00\x01\xff\xff")}, {in(8, ints(2), "\x01\xff"), in(8, ints(2), "\x01\xff")}, {in(8, nil, "\x80"), in(64, nil, "\xff\xff\xff\xff\xff\xff\xff\x80")}, {in(8, nil, "\x7f"), in(32, nil, "\x00\x00\x00\x7f")},
		{in(16, ints(2), "\x00\x7f\xff\x80"), in(8, ints(2), "\x7f\x80")}, {in(32, ints(1, 1), "\xff\xff\x80\x00"), in(16, ints(1, 1), "\x80\x00")}, {in(64, ints(2), "\x00\x00\x00\x00\x7f\xff\xff\xff\xff\xff\xff\xff\x80\x00\x00\x00"), in(32, ints(2), "\x7f\xff\xff\xff\x80\x00\x00\x00")}, {in(64, nil, "\xff\xff\xff\xff\xff\xff\xff\xff"), in(8, nil, "\xff")},
		{in(64, ints(0), ""), in(8, ints(0), "")}, {in(8, ints(2, 0), ""), in(64, ints(2, 0), "")}, {in(32, ints(0, 1<<40), ""), in(32, ints(0, 1<<40), "")},
	} {
		if d, ok := c.t.To(c.want.Width); !like(d, c.want) || !ok {
			fault(t, "To(%d) of %v: %v, %v", c.want.Width, c.t, d, ok)
		}
	}
	noArray(t, in(16, nil, "\x00\x80"), 8)
	noArray(t, in(16, nil, "\xff\x7f"), 8)
	noArray(t, in(32, ints(2), "\x00\x00\x00\x05\x00\x00\x80\x00"), 16)
	noArray(t, in(64, ints(2), "\xff\xff\xff\xff\x7f\xff\xff\xff\x00\x00\x00\x00\x00\x00\x00\x00"), 32)
	noArray(t, in(64, nil, "\x01\x00\x00\x00\x00\x00\x00\x00"), 8)
}

func TestToWhatIsNoWidth(t *testing.T) { // P5.2, R1: Big among them, though all fit it
	for _, w := range noWidths() {
		for _, c := range []typed.Typed{in(8, nil, "\x00"), in(8, ints(3), "\x01\x02\xff"), in(16, ints(2, 1), "\x00\x05\xff\xff"), in(32, nil, "\x00\x01\x02\x03"), in(64, ints(1), "\x80\x00\x00\x00\x00\x00\x00\x00"), in(8, ints(0), ""), in(64, ints(2, 0), "")} {
			noArray(t, c, w)
		}
	}
}

func TestThereAndBack(t *testing.T) { // P5.3: whole arrays, in each wider width, too, and narrowed again as far as it goes
	for _, v := range good() {
		p, err := typed.Pack(v)
		if back, ok := p.Val(); err != api.OK || !p.May() || !likeVal(back, v) || !val.Same(back, v) || !ok || p.Many() != len(v.Elems) || p.Width != val.Width(v) {
			fault(t, "%v packed is %v, %d, and back %v, %v", v, p, err, back, ok)
			continue
		}
		for _, w := range widths() {
			wide, ok := p.To(w)
			if w < p.Width {
				noArray(t, p, w)
				continue
			}
			if back, its := wide.Val(); !ok || !its || wide.Width != w || !likeVal(back, v) {
				fault(t, "%v in %d bits: %v, %v, and back %v, %v", v, w, wide, ok, back, its)
			}
			narrowed(t, p, wide)
		}
	}
}

// narrowed holds a wider array, in each width, against the one that it was.
func narrowed(t *testing.T, p, wide typed.Typed) {
	t.Helper()
	for _, w := range widths() {
		if w < p.Width {
			noArray(t, wide, w)
			continue
		}
		at, ok := wide.To(w)
		same, alike := p.To(w)
		again, back := at.To(p.Width)
		if !ok || !alike || !back || !like(at, same) || !like(again, p) {
			fault(t, "%v by %d bits in %d: %v, %v; and back %v, %v", p, wide.Width, w, at, ok, again, back)
		}
	}
}

func TestBackAndThere(t *testing.T) { // P5.3, the other way round: what bytes are, packed, is it in the least width
	for _, c := range some() {
		v, _ := c.Val()
		p, err := typed.Pack(v)
		least, ok := c.To(needed(v.Elems))
		if again, back := p.To(c.Width); err != api.OK || !ok || !back || !like(p, least) || !like(again, c) {
			fault(t, "%v as an array, packed: %v, %d; in its width %v, %v", c, p, err, again, back)
		}
	}
}

func TestNilAndEmpty(t *testing.T) { // R2: of shapes, elements and bytes
	for _, s := range [][]int{nil, ints(), make([]int, 0, 5)} {
		if p, err := typed.Pack(of(s, "5")); !like(p, in(8, nil, "\x05")) || err != api.OK {
			fault(t, "5, packed: %v, %d", p, err)
		}
		whatItIs(t, in(16, s, "\x00\x05"))
		for _, elems := range [][]string{nil, texts()} {
			if p, err := typed.Pack(of(s, elems...)); !like(p, zero) || err != api.ErrArg {
				fault(t, "no element, and no axis, packed: %v, %d", p, err)
			}
			if p, err := typed.Pack(of(ints(0), elems...)); !like(p, in(8, ints(0), "")) || err != api.OK {
				fault(t, "no element, packed: %v, %d", p, err)
			}
		}
		nothing(t, in(8, s, string([]byte{})))
	}
	whatItIs(t, in(64, ints(0), string([]byte{})))
}

// answer is all that the calls tell of an array, and of a typed one.
type answer struct {
	numbers []int64
	typed   []typed.Typed
	arrays  []api.Val
}

func (a answer) is(b answer) bool {
	return slices.Equal(a.numbers, b.numbers) && slices.EqualFunc(a.typed, b.typed, like) && slices.EqualFunc(a.arrays, b.arrays, likeVal)
}

// also is a number and a bool as two more numbers.
func (a *answer) also(x int64, yes bool) {
	a.numbers = append(a.numbers, x, 0)
	if yes {
		a.numbers[len(a.numbers)-1] = 1
	}
}

// asked is what all calls tell of them.
func asked(v api.Val, c typed.Typed) answer {
	p, err := typed.Pack(v)
	a := answer{numbers: []int64{int64(err)}, typed: []typed.Typed{p}}
	for _, x := range []typed.Typed{p, c} {
		a.also(int64(x.Many()), x.May())
		for _, i := range ints(-1, 0, 1, x.Many()-1, x.Many()) {
			a.also(x.At(i))
		}
		back, ok := x.Val()
		a.arrays = append(a.arrays, back)
		a.also(0, ok)
		for _, w := range append(widths(), api.Big) {
			d, ok := x.To(w)
			a.typed = append(a.typed, d)
			a.also(0, ok)
		}
	}
	return a
}

// roomy is a list with room behind it, in which what is written shows.
func roomy[T any](l []T, mark T) (list, room []T) {
	room = append(slices.Clone(l), mark, mark, mark, mark)
	return room[:len(l)], room
}

// spoil writes all over a list, also behind its end.
func spoil[T any](l []T, mark T) {
	l = l[:cap(l)]
	for i := range l {
		l[i] = mark
	}
}

// sharing asks with lists that have room, and tells what there is then, of the answers and of these, when one side is spoilt.
func sharing(t *testing.T, v api.Val, c typed.Typed) {
	t.Helper()
	shape, shapeRoom := roomy(v.Shape, 9)
	elems, elemsRoom := roomy(v.Elems, "9")
	axes, axesRoom := roomy(c.Shape, 9)
	keptShape, keptElems, keptAxes := slices.Clone(shapeRoom), slices.Clone(elemsRoom), slices.Clone(axesRoom)
	ask := func() answer { return asked(of(shape, elems...), in(c.Width, axes, c.Data)) }
	first, second := ask(), ask()
	for _, x := range first.typed {
		spoil(x.Shape, -77)
	}
	for _, x := range first.arrays {
		spoil(x.Shape, -77)
		spoil(x.Elems, "spoilt")
	}
	if !slices.Equal(shapeRoom, keptShape) || !slices.Equal(elemsRoom, keptElems) || !slices.Equal(axesRoom, keptAxes) {
		fault(t, "%v and %v are %v, %v and %v then", v, c, shapeRoom, elemsRoom, axesRoom)
	}
	spoil(shapeRoom, -77)
	spoil(elemsRoom, "spoilt")
	spoil(axesRoom, -77)
	if !second.is(asked(v, c)) {
		fault(t, "of %v and %v there is %v then", v, c, second)
	}
}

func TestAnswersShareNothing(t *testing.T) { // R3: what is handed in isn't changed, none of it is handed out, and no two answers share any
	arrays := append(bad(), of(nil, "5"), of(ints(1), "-129"), of(ints(3), "7", "800", "-9"), of(ints(2, 3), "1", "2", "3", "4", "5", "65536"), of(ints(1, 2, 2), "1", "2", "3", "9223372036854775807"), of(ints(0)), of(ints(3, 0)), of(nil, "9223372036854775808"))
	all := []typed.Typed{zero, in(8, nil, "a"), in(8, ints(3), "abc"), in(16, ints(2, 2), "\x00a\x00b\x00c\x00d"), in(32, ints(2, 1, 1), "abcdefgh"), in(64, ints(1), "abcdefgh"), in(64, ints(2, 0), ""), in(8, ints(4), "abc"), in(24, ints(1), "abc"), in(8, ints(-1, 2), "a"), in(16, ints(1, 1, 1, 1), "ab")}
	for i, v := range arrays {
		sharing(t, v, all[i%len(all)])
	}
	for i, c := range all {
		sharing(t, arrays[len(arrays)-1-i%8], c)
	}
}

func TestTypedItselfStays(t *testing.T) { // R3: an array that is told in its own width is another one
	s := ints(2)
	c := in(8, s, "ab")
	d, ok := c.To(8)
	v, _ := c.Val()
	p, err := typed.Pack(v)
	s[0] = 7
	v.Shape[0] = 8
	if !ok || err != api.OK || !like(d, in(8, ints(2), "ab")) || !like(p, d) {
		fault(t, "there is %v and %v then", d, p)
	}
	d.Shape[0] = 9
	if !like(p, in(8, ints(2), "ab")) || s[0] != 7 {
		fault(t, "there is %v then", p)
	}
}

func TestAnswersHangOnNothingElse(t *testing.T) { // R4, P1: asked again, the other way round, and side by side, of any arrays
	arrays, all := append(good(), bad()...), append(some(), wrong()...)
	ask := func(i int) answer { return asked(arrays[i%len(arrays)], all[i]) }
	var got []answer
	for i := range all {
		got = append(got, ask(i))
	}
	var group sync.WaitGroup
	for range 4 {
		group.Go(func() {
			for i := len(all) - 1; i >= 0; i-- {
				if a := ask(i); !a.is(got[i]) {
					fault(t, "%v: %v, and then %v", all[i], got[i], a)
				}
			}
		})
	}
	group.Wait()
}
