package typed_test

import (
	"fmt"
	"math"
	"math/big"
	"slices"
	"strconv"
	"strings"
	"testing"

	"reredos/api"
	"reredos/typed"
)

// ints is a list, written short.
func ints(l ...int) []int { return l }

// texts is a list, written short.
func texts(l ...string) []string { return l }

// of is an array, written short.
func of(s []int, elems ...string) api.Val { return api.Val{Shape: s, Elems: elems} }

// in is a typed array, written short.
func in(w int, s []int, data string) typed.Typed {
	return typed.Typed{Width: w, Shape: s, Data: data}
}

// widths are those that a typed array may have, rising.
func widths() []int { return ints(8, 16, 32, 64) }

// noWidths are numbers that are none of these: Big, 0, below 0, between, around them, and far off.
func noWidths() []int {
	l := ints(api.Big, 0, 1, 2, 4, 12, 24, 40, 48, 56, 72, 96, 120, 136, 256, 512, 1<<20, math.MaxInt, math.MaxInt-7, math.MinInt, math.MinInt+8)
	for _, w := range widths() {
		l = append(l, -w, w-1, w+1, w|1<<20, w|1<<40, w+256)
	}
	return l
}

// end is the least and the greatest number of a width, with what is one beyond.
type end struct {
	width                         int
	below, least, greatest, above string
}

func ends() []end {
	return []end{
		{8, "-129", "-128", "127", "128"},
		{16, "-32769", "-32768", "32767", "32768"},
		{32, "-2147483649", "-2147483648", "2147483647", "2147483648"},
		{64, "-9223372036854775809", "-9223372036854775808", "9223372036854775807", "9223372036854775808"},
	}
}

func whole(s string) *big.Int {
	x, ok := new(big.Int).SetString(s, 10)
	if !ok {
		panic(s + " is no number")
	}
	return x
}

// round is 2^w.
func round(w int) *big.Int { return new(big.Int).Lsh(big.NewInt(1), uint(w)) }

// bytesOf says the chapter's words of numbers' bytes, in whole numbers.
func bytesOf(w int, l ...string) string {
	var data []byte
	for _, s := range l {
		x := whole(s)
		if x.Sign() < 0 {
			x.Add(x, round(w))
		}
		data = append(data, x.FillBytes(make([]byte, w/8))...)
	}
	return string(data)
}

// numbersOf are the numbers that bytes are, by the same words.
func numbersOf(w int, data string) []string {
	var l []string
	for ; len(data) > 0; data = data[w/8:] {
		x := new(big.Int).SetBytes([]byte(data[:w/8]))
		if x.Cmp(round(w-1)) >= 0 {
			x.Sub(x, round(w))
		}
		l = append(l, x.String())
	}
	return l
}

// fits says in whole numbers whether one fits a width.
func fits(s string, w int) bool {
	x := whole(s)
	return x.Cmp(new(big.Int).Neg(round(w-1))) >= 0 && x.Cmp(round(w-1)) < 0
}

// needed is the least width that all of some numbers fit; 128 if there is none.
func needed(l []string) int {
	for _, w := range widths() {
		if !slices.ContainsFunc(l, func(s string) bool { return !fits(s, w) }) {
			return w
		}
	}
	return 128
}

// mayBe says in whole numbers whether a shape may be, and how many elements it has.
func mayBe(s []int) (int, bool) {
	size := big.NewInt(1)
	for _, axis := range s {
		if axis < 0 || axis > 1<<40 || len(s) > 3 {
			return 0, false
		}
		size.Mul(size, big.NewInt(int64(axis)))
	}
	if size.Cmp(big.NewInt(4096)) > 0 {
		return 0, false
	}
	return int(size.Int64()), true
}

// like tells whether two typed arrays are the same; nil and empty are (R2).
func like(a, b typed.Typed) bool {
	return a.Width == b.Width && slices.Equal(a.Shape, b.Shape) && a.Data == b.Data
}

// likeVal does so of arrays.
func likeVal(a, b api.Val) bool {
	return slices.Equal(a.Shape, b.Shape) && slices.Equal(a.Elems, b.Elems)
}

// zero is what is told beside an error, or beside false.
var zero typed.Typed

// shapes are some that may be: without an axis, up to three, with axes of 0 and 1, and of as many elements as there may be.
func shapes() [][]int {
	l := [][]int{nil, ints(), ints(7), ints(4096), ints(64, 64), ints(1, 4096), ints(2, 2048), ints(16, 16, 16), ints(4096, 1, 1), ints(0, 4097), ints(1<<40, 0), ints(0, 1<<40, 1<<40)}
	for a := range 4 {
		l = append(l, ints(a))
		for b := range 4 {
			l = append(l, ints(a, b), ints(a, b, 2), ints(2, a, b))
		}
	}
	return l
}

// badShapes are some that may not be, in each way; the axes of some are multiplied to 1, or to 0, or round to these.
func badShapes() [][]int {
	return [][]int{ints(1, 1, 1, 1), ints(0, 0, 0, 0), ints(2, 1, 1, 1, 1), ints(-1), ints(math.MinInt), ints(-1, -1), ints(-2, -3), ints(2, -1), ints(0, -1), ints(1, -1, -1), ints(4097), ints(64, 65), ints(16, 16, 17), ints(1<<40 + 1), ints(1<<40+1, 0), ints(0, 1<<40+1), ints(math.MaxInt), ints(1<<32, 1<<32), ints(3, 6148914691236517206), make([]int, 5000)}
}

// noNumbers are texts that no element may be.
func noNumbers() []string {
	return texts("", "-", "--1", "-0", "00", "01", "-01", "+1", " 1", "1 ", "1 2", "_1", "1.0", "1e1", "0x1", "a", "1a", "1\x00", "\xff", "٣", strings.Repeat("9", 101), "1"+strings.Repeat("0", 100), strings.Repeat("0", 100))
}

// random is a row of numbers that is the same each time.
type random uint64

func (r *random) below(n int) int {
	*r = *r*6364136223846793005 + 1442695040888963407
	return int(uint64(*r)>>33) % n
}

// data are bytes of elements of a width: any ones, or those at whose ends and signs faults would show.
func (r *random) data(w, many int) string {
	b := make([]byte, many*w/8)
	any := r.below(2) == 0
	for i := range b {
		if b[i] = byte(r.below(256)); !any {
			b[i] = "\x00\x00\x00\x01\x7f\x80\xff\xff\xff\xfe"[r.below(10)]
		}
	}
	return string(b)
}

// number has fewer bits than some, on either side of 0, so that it fits as many as these.
func (r *random) number(bits int) string {
	n := r.below(bits)
	x := int64(r.below(1<<30))<<33 | int64(r.below(1<<30))<<3 | int64(r.below(8))
	x &= 1<<n - 1
	if r.below(2) == 0 {
		x = -x - 1
	}
	return strconv.FormatInt(x, 10)
}

// good are arrays that may be, and fit some width: of each shape, with elements of each width.
func good() []api.Val {
	r := random(3)
	var l []api.Val
	for _, s := range shapes() {
		many, _ := mayBe(s)
		for _, w := range widths() {
			v := of(s)
			for range many {
				v.Elems = append(v.Elems, r.number(w))
			}
			l = append(l, v)
		}
	}
	for _, e := range ends() {
		for _, s := range texts(e.least, e.greatest) {
			l = append(l, of(nil, s), of(ints(1), s), of(ints(3), "0", s, "-1"), of(ints(1, 2, 1), "1", s))
		}
	}
	return l
}

// bad are arrays that may not be: shapes, numbers of elements, and elements; some would be Big.
func bad() []api.Val {
	nines := strings.Repeat("9", 100)
	l := []api.Val{{}, of(nil), of(ints()), of(nil, "1", "2"), of(nil, "1", nines), of(ints(0), "1"), of(ints(0), nines), of(ints(1)), of(ints(3), "1", "2"), of(ints(3), "1", "2", "3", "4"), of(ints(2), nines), of(ints(2, 3), "1", "2", "3", "4", "5"), of(ints(2, 3), "1", "2", "3", "4", "5", "6", "7"), of(ints(3, 0), "1"), of(ints(2, 1, 2), "1", "2", nines)}
	for _, s := range noNumbers() {
		l = append(l, of(nil, s), of(ints(1), s), of(ints(3), "1", "2", s), of(ints(2, 2), s, "1", "2", "3"), of(ints(2), nines, s), of(ints(2), s, nines), of(ints(1, 1, 2), "-"+nines, s))
	}
	for _, s := range badShapes() {
		l = append(l, of(s), of(s, "1"), of(s, "1", "2"), of(s, nines), of(s, "1", "2", "3", "4", "5", "6"))
	}
	return append(l, of(ints(4097), slices.Repeat(texts("1"), 4097)...), of(ints(64, 65), slices.Repeat(texts("1"), 64*65)...), of(ints(4097), slices.Repeat(texts(nines), 4097)...))
}

// some are typed arrays that may be, of each width and shape: bytes of all kinds, also those that nothing is packed to.
func some() []typed.Typed {
	r := random(5)
	var l []typed.Typed
	for _, s := range shapes() {
		many, _ := mayBe(s)
		for _, w := range widths() {
			l = append(l, in(w, s, r.data(w, many)), in(w, s, strings.Repeat("\xff", many*w/8)), in(w, s, strings.Repeat("\x00", many*w/8)))
		}
	}
	return l
}

// wrong are typed arrays that may not be: widths, shapes, and numbers of bytes.
func wrong() []typed.Typed {
	l := []typed.Typed{{}, in(8, nil, ""), in(8, nil, "ab"), in(16, nil, "a"), in(64, nil, "abcdefg"), in(8, ints(0), "a"), in(64, ints(3, 0), "abcdefgh"), in(8, ints(2), "abcd"), in(16, ints(2), "ab"), in(16, ints(4), "abcd"), in(32, ints(1), "ab")}
	for _, w := range noWidths() {
		l = append(l, in(w, nil, "a"), in(w, nil, ""), in(w, ints(0), ""), in(w, ints(0, 5), "a"), in(w, ints(2), "ab"), in(w, ints(2), "abcd"))
		if each := w / 8; each > 0 && each < 40 {
			l = append(l, in(w, nil, strings.Repeat("a", each)), in(w, ints(2), strings.Repeat("a", 2*each)), in(w, nil, strings.Repeat("a", each+1)))
		}
	}
	for _, s := range badShapes() {
		for _, w := range widths() {
			for _, many := range ints(0, 1, 2, 6, 4096, 4097, 4160, 4352) {
				l = append(l, in(w, s, strings.Repeat("\x01", many*w/8)))
			}
		}
	}
	for _, t := range some() {
		l = append(l, in(t.Width, t.Shape, t.Data+"\x00"))
		if len(t.Data) > 0 {
			l = append(l, in(t.Width, t.Shape, t.Data[1:]), in(t.Width, t.Shape, t.Data[:len(t.Data)-1]))
		}
	}
	return l
}

// fault tells one, but not all of a long array, and no byte that isn't to be read.
func fault(t *testing.T, format string, of ...any) {
	t.Helper()
	t.Errorf("%.400q", fmt.Sprintf(format, of...))
}
