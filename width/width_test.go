package width_test

import (
	"math"
	"math/big"
	"slices"
	"strings"
	"sync"
	"testing"

	"reredos/api"
	"reredos/num"
	"reredos/width"
)

// The calls, with the exact signatures that the chapter lists.
var (
	_ func(string) int                      = width.Of
	_ func(x int64, w int) bool             = width.Fits
	_ func(...int) int                      = width.Max
	_ func(a, b int64, w int) (int64, bool) = width.Add
	_ func(a, b int64, w int) (int64, bool) = width.Sub
	_ func(a, b int64, w int) (int64, bool) = width.Mul
	_ func(w int) int                       = width.Next
)

// call is one of the three that tell a number in a width, with what it is of whole numbers and of texts.
type call struct {
	name  string
	do    func(a, b int64, w int) (int64, bool)
	whole func(z, x, y *big.Int) *big.Int
	text  func(a, b string) (string, api.Errno)
}

func calls() []call {
	return []call{
		{"Add", width.Add, (*big.Int).Add, num.Add},
		{"Sub", width.Sub, (*big.Int).Sub, num.Sub},
		{"Mul", width.Mul, (*big.Int).Mul, num.Mul},
	}
}

// ends are the least and the greatest number of each width of an int64's, written out.
func ends() map[int][2]int64 {
	return map[int][2]int64{
		8:  {-128, 127},
		16: {-32768, 32767},
		32: {-2147483648, 2147483647},
		64: {-9223372036854775808, 9223372036854775807},
	}
}

// rising are all widths.
func rising() []int { return []int{8, 16, 32, 64, 128} }

// noWidths are numbers that are no width: around each width, and far off.
func noWidths() []int {
	l := []int{0, 1, 2, 3, 4, 24, 48, 62, 96, 100, 256, 512, 1024, math.MaxInt, math.MaxInt - 7, math.MinInt, math.MinInt + 1}
	for _, w := range rising() {
		l = append(l, w-1, w+1, -w, w|1<<20, w+256)
	}
	return l
}

// numbers are those near 0, near both ends of each width, near their halves and roots, and some between.
func numbers() []int64 {
	var l []int64
	near := func(x int64) {
		for d := int64(-2); d <= 2; d++ {
			l = append(l, x+d, -(x + d)) // at an int64's end they go on at the other one
		}
	}
	for _, x := range []int64{0, 5, 11, 64, 100, 181, 1000, 46341, 65536, 3037000500, 1234567890123, 6074000999, 4611686018427387904} {
		near(x)
	}
	for _, e := range ends() {
		near(e[0])
		near(e[1])
		near(e[0] * 2)
	}
	slices.Sort(l)
	return slices.Compact(l)
}

// fits says the chapter's words in whole numbers.
func fits(x *big.Int, w int) bool {
	half := new(big.Int).Lsh(big.NewInt(1), uint(w-1))
	return x.Cmp(new(big.Int).Neg(half)) >= 0 && x.Cmp(half) < 0
}

func TestFitsAtTheEnds(t *testing.T) { // P2.1
	for w, e := range ends() {
		for _, x := range []int64{e[0], e[0] + 1, -1, 0, 1, e[1] - 1, e[1]} {
			if !width.Fits(x, w) {
				t.Errorf("Fits(%d, %d): false", x, w)
			}
		}
		if w == 64 {
			continue // there is no int64 beyond
		}
		for _, x := range []int64{e[0] - 1, e[1] + 1, e[0] * 2, e[1] * 2, e[0] << 8, math.MinInt64, math.MaxInt64} {
			if width.Fits(x, w) {
				t.Errorf("Fits(%d, %d): true", x, w)
			}
		}
	}
}

func TestFitsIsOfWholeNumbers(t *testing.T) { // P2.1
	for _, x := range numbers() {
		for _, w := range rising() {
			if width.Fits(x, w) != fits(big.NewInt(x), w) {
				t.Errorf("Fits(%d, %d): %v", x, w, width.Fits(x, w))
			}
		}
	}
	for x := int64(-70000); x <= 70000; x++ {
		if width.Fits(x, 8) != (x >= -128 && x <= 127) || width.Fits(x, 16) != (x >= -32768 && x <= 32767) {
			t.Errorf("Fits(%d, ..)", x)
		}
	}
}

func TestBigFitsAll(t *testing.T) { // P2.1
	for _, x := range append(numbers(), math.MinInt64, math.MaxInt64) {
		if !width.Fits(x, api.Big) {
			t.Errorf("Fits(%d, Big): false", x)
		}
	}
}

func TestNothingFitsWhatIsNoWidth(t *testing.T) { // P2.1, P2.2, R1
	for _, w := range noWidths() {
		for _, x := range numbers() {
			if width.Fits(x, w) {
				t.Errorf("Fits(%d, %d): true", x, w)
			}
			for _, c := range calls() {
				if got, ok := c.do(x, 1, w); got != 0 || ok {
					t.Errorf("%s(%d, 1, %d): %d, %v", c.name, x, w, got, ok)
				}
			}
		}
	}
}

func TestOf(t *testing.T) { // P2.1
	for _, c := range []struct {
		s string
		w int
	}{
		{"0", 8}, {"1", 8}, {"-1", 8}, {"100", 8}, {"127", 8}, {"-128", 8},
		{"128", 16}, {"-129", 16}, {"255", 16}, {"256", 16}, {"32767", 16}, {"-32768", 16},
		{"32768", 32}, {"-32769", 32}, {"65536", 32}, {"2147483647", 32}, {"-2147483648", 32},
		{"2147483648", 64}, {"-2147483649", 64}, {"4294967296", 64}, {"9223372036854775807", 64}, {"-9223372036854775808", 64},
		{"9223372036854775808", api.Big}, {"-9223372036854775809", api.Big}, {"18446744073709551616", api.Big}, {"-18446744073709551615", api.Big},
		{strings.Repeat("9", 100), api.Big}, {"-" + strings.Repeat("9", 100), api.Big},
	} {
		if w := width.Of(c.s); w != c.w {
			t.Errorf("Of(%q): %d", c.s, w)
		}
	}
}

func TestOfWhatIsNoNumber(t *testing.T) { // P2.1, R5: it fits none
	for _, s := range []string{
		"", "-", "--1", "-0", "00", "01", "-01", "+1", " 1", "1 ", "1 2", "1.0", "1e2", "0x1", "_1", "1_0", "a", "1a", "\x00", "1\x00", "\xff", "٣", "1\n",
		strings.Repeat("9", 101), "0" + strings.Repeat("9", 99), strings.Repeat("0", 100), strings.Repeat("1", 100000),
	} {
		if w := width.Of(s); w != api.Big {
			t.Errorf("Of(%q): %d", s, w)
		}
	}
}

func TestOfIsTheLeastThatFits(t *testing.T) { // P2.1, P2.3
	for _, x := range numbers() {
		w := width.Of(num.Of(x))
		for _, v := range rising() {
			if width.Fits(x, v) != (v >= w) {
				t.Errorf("%d: Of %d, Fits %d %v", x, w, v, width.Fits(x, v))
			}
		}
	}
}

func TestMax(t *testing.T) { // P2.1
	for _, c := range []struct {
		l    []int
		want int
	}{
		{nil, 8}, {[]int{}, 8},
		{[]int{8}, 8}, {[]int{16}, 16}, {[]int{128}, 128},
		{[]int{8, 16}, 16}, {[]int{16, 8}, 16}, {[]int{8, 8}, 8}, {[]int{32, 32, 32}, 32},
		{[]int{8, 128, 16}, 128}, {[]int{64, 8, 32, 16}, 64}, {[]int{8, 16, 32, 64}, 64},
		{[]int{0}, 0}, {[]int{3}, 3}, {[]int{-5}, -5}, {[]int{-5, -3, -9}, -3}, {[]int{0, 0}, 0}, {[]int{7, 1000, 8}, 1000},
		{[]int{math.MinInt}, math.MinInt}, {[]int{math.MinInt, math.MaxInt, 0}, math.MaxInt},
	} {
		kept := slices.Clone(c.l)
		if got := width.Max(c.l...); got != c.want {
			t.Errorf("Max(%v): %d", c.l, got)
		}
		if !slices.Equal(c.l, kept) { // R3
			t.Errorf("Max made %v of %v", c.l, kept)
		}
	}
	if width.Max() != api.W8 || width.Max(api.W32, api.Big, api.W8) != api.Big {
		t.Error("Max, told one by one")
	}
}

func TestNext(t *testing.T) { // P2.1
	for _, c := range [][2]int{{8, 16}, {16, 32}, {32, 64}, {64, 128}, {128, 128}} {
		if w := width.Next(c[0]); w != c[1] {
			t.Errorf("Next(%d): %d", c[0], w)
		}
	}
	for _, w := range noWidths() {
		if v := width.Next(w); v != api.Big {
			t.Errorf("Next(%d): %d", w, v)
		}
	}
}

// told is what the chapter's words make of a whole number, and of the two that it came of.
func told(a, b int64, z *big.Int, w int) (int64, bool) {
	if !z.IsInt64() || !fits(z, w) || !fits(big.NewInt(a), w) || !fits(big.NewInt(b), w) {
		return 0, false
	}
	return z.Int64(), true
}

// hold holds the three calls against whole numbers of the library.
func hold(t *testing.T, a, b int64, w int) {
	t.Helper()
	for _, c := range calls() {
		want, wantOK := told(a, b, c.whole(new(big.Int), big.NewInt(a), big.NewInt(b)), w)
		if got, ok := c.do(a, b, w); got != want || ok != wantOK {
			t.Errorf("%s(%d, %d, %d): %d, %v; not %d, %v", c.name, a, b, w, got, ok, want, wantOK)
		}
	}
}

func TestEightBits(t *testing.T) { // P2.2: all pairs, and some beyond
	for a := int64(-130); a <= 130; a++ {
		for b := int64(-130); b <= 130; b++ {
			hold(t, a, b, api.W8)
		}
	}
}

func TestNearTheEnds(t *testing.T) { // P2.2
	for _, a := range numbers() {
		for _, b := range numbers() {
			for _, w := range rising() {
				hold(t, a, b, w)
			}
		}
	}
}

func TestJustFitting(t *testing.T) { // P2.2: written out, with what is one beyond
	for _, c := range []struct {
		name string
		a, b int64
		w    int
		want int64
		ok   bool
	}{
		{"Add", 100, 100, 8, 0, false}, {"Add", 100, 100, 16, 200, true}, {"Add", 100, 27, 8, 127, true}, {"Add", 100, 28, 8, 0, false},
		{"Add", -100, -28, 8, -128, true}, {"Add", -100, -29, 8, 0, false}, {"Add", 127, -128, 8, -1, true},
		{"Add", 128, -1, 8, 0, false}, {"Add", -1, 128, 8, 0, false}, {"Add", 200, -200, 8, 0, false}, {"Add", -129, 1, 8, 0, false},
		{"Add", 32766, 1, 16, 32767, true}, {"Add", 32767, 1, 16, 0, false}, {"Add", -32768, -1, 16, 0, false},
		{"Add", 2147483646, 1, 32, 2147483647, true}, {"Add", 2147483647, 1, 32, 0, false}, {"Add", -2147483648, -1, 32, 0, false},
		{"Add", math.MaxInt64 - 1, 1, 64, math.MaxInt64, true}, {"Add", math.MaxInt64, 1, 64, 0, false}, {"Add", 1, math.MaxInt64, 64, 0, false},
		{"Add", math.MinInt64 + 1, -1, 64, math.MinInt64, true}, {"Add", math.MinInt64, -1, 64, 0, false}, {"Add", math.MinInt64, math.MinInt64, 64, 0, false},
		{"Add", math.MaxInt64, 1, api.Big, 0, false}, {"Add", math.MinInt64, math.MinInt64, api.Big, 0, false}, {"Add", math.MaxInt64, math.MinInt64, api.Big, -1, true},
		{"Sub", -100, 28, 8, -128, true}, {"Sub", -100, 29, 8, 0, false}, {"Sub", 100, -27, 8, 127, true}, {"Sub", 100, -28, 8, 0, false},
		{"Sub", 0, -128, 8, 0, false}, {"Sub", -1, -128, 8, 127, true}, {"Sub", 128, 1, 8, 0, false}, {"Sub", 1, 128, 8, 0, false},
		{"Sub", -32768, 1, 16, 0, false}, {"Sub", 0, -2147483648, 32, 0, false}, {"Sub", -1, -2147483648, 32, 2147483647, true},
		{"Sub", 0, math.MinInt64, 64, 0, false}, {"Sub", -1, math.MinInt64, 64, math.MaxInt64, true}, {"Sub", math.MinInt64, 1, 64, 0, false},
		{"Sub", math.MinInt64, math.MinInt64, 64, 0, true}, {"Sub", math.MaxInt64, -1, 64, 0, false}, {"Sub", 0, math.MinInt64, api.Big, 0, false}, {"Sub", -2, math.MaxInt64, api.Big, 0, false},
		{"Mul", 11, 11, 8, 121, true}, {"Mul", 11, 12, 8, 0, false}, {"Mul", -8, 16, 8, -128, true}, {"Mul", 8, 16, 8, 0, false}, {"Mul", -128, -1, 8, 0, false},
		{"Mul", -1, -128, 8, 0, false}, {"Mul", -128, 1, 8, -128, true}, {"Mul", 16, 16, 8, 0, false}, {"Mul", 16, 16, 16, 256, true}, {"Mul", 200, 0, 8, 0, false}, {"Mul", 0, 200, 8, 0, false},
		{"Mul", 181, 181, 16, 32761, true}, {"Mul", 182, 182, 16, 0, false}, {"Mul", -32768, -1, 16, 0, false}, {"Mul", 256, 256, 16, 0, false},
		{"Mul", 46340, 46340, 32, 2147395600, true}, {"Mul", 46341, 46341, 32, 0, false}, {"Mul", 65536, 65536, 32, 0, false}, {"Mul", -2147483648, -1, 32, 0, false},
		{"Mul", 3037000499, 3037000499, 64, 9223372030926249001, true}, {"Mul", 3037000500, 3037000500, 64, 0, false}, {"Mul", 4294967296, 4294967296, 64, 0, false},
		{"Mul", -4294967296, 2147483648, 64, math.MinInt64, true}, {"Mul", 4294967296, 2147483648, 64, 0, false}, {"Mul", math.MinInt64, 1, 64, math.MinInt64, true},
		{"Mul", math.MinInt64, -1, 64, 0, false}, {"Mul", -1, math.MinInt64, 64, 0, false}, {"Mul", math.MinInt64, math.MinInt64, 64, 0, false}, {"Mul", math.MinInt64, 0, 64, 0, true}, {"Mul", 0, math.MinInt64, 64, 0, true},
		{"Mul", math.MinInt64, -1, api.Big, 0, false}, {"Mul", -1, math.MinInt64, api.Big, 0, false}, {"Mul", math.MaxInt64, 2, api.Big, 0, false}, {"Mul", math.MaxInt64, -1, api.Big, -math.MaxInt64, true},
	} {
		for _, do := range calls() {
			if do.name != c.name {
				continue
			}
			if got, ok := do.do(c.a, c.b, c.w); got != c.want || ok != c.ok {
				t.Errorf("%s(%d, %d, %d): %d, %v", c.name, c.a, c.b, c.w, got, ok)
			}
		}
	}
}

// random is a row of numbers that is the same each time.
type random uint64

// number has 0 to 63 bits, on either side of 0.
func (r *random) number() int64 {
	*r = *r*6364136223846793005 + 1442695040888963407
	bits := uint64(*r) >> 58
	*r = *r*6364136223846793005 + 1442695040888963407
	return int64(*r) >> bits
}

func TestManyNumbers(t *testing.T) { // P2.2
	r := random(1)
	for range 50000 {
		a, b := r.number(), r.number()
		for _, w := range rising() {
			hold(t, a, b, w)
		}
	}
}

func TestWhatFitsFitsAllThatAreWider(t *testing.T) { // P2.3
	for _, a := range numbers() {
		for _, w := range rising() {
			if width.Fits(a, w) && !width.Fits(a, width.Next(w)) {
				t.Errorf("%d fits %d, and not %d", a, w, width.Next(w))
			}
		}
		for _, b := range numbers() {
			for _, c := range calls() {
				wider(t, c, a, b)
			}
		}
	}
}

// wider goes through the widths, and holds what is told of one against what was told of the one ahead.
func wider(t *testing.T, c call, a, b int64) {
	t.Helper()
	ahead, fitted := int64(0), false
	for _, w := range rising() {
		got, ok := c.do(a, b, w)
		if fitted && (!ok || got != ahead) {
			t.Errorf("%s(%d, %d, %d): %d, %v; in less bits %d", c.name, a, b, w, got, ok, ahead)
		}
		ahead, fitted = got, ok
	}
}

func TestWhatIsToldIsWhatNumTells(t *testing.T) { // P2.3
	for _, a := range numbers() {
		for _, b := range numbers() {
			for _, c := range calls() {
				likeNum(t, c, a, b)
			}
		}
	}
}

// likeNum holds what is told in each width against the text that num tells, and against how many bits the three texts need.
func likeNum(t *testing.T, c call, a, b int64) {
	t.Helper()
	s, err := c.text(num.Of(a), num.Of(b))
	if err != api.OK {
		t.Fatalf("num's %s of %d and %d: %d", c.name, a, b, err)
	}
	_, isInt := num.Int(s)
	needed := width.Max(width.Of(num.Of(a)), width.Of(num.Of(b)), width.Of(s))
	for _, w := range rising() {
		got, ok := c.do(a, b, w)
		if ok != (isInt && w >= needed) || ok && num.Of(got) != s {
			t.Errorf("%s(%d, %d, %d): %d, %v; num tells %s", c.name, a, b, w, got, ok, s)
		}
	}
}

// answers are what all calls tell of two numbers.
func answers(a, b int64, w int) []int64 {
	l := []int64{int64(width.Of(num.Of(a))), int64(width.Max(w, int(b%100))), int64(width.Next(w))}
	for _, c := range calls() {
		x, ok := c.do(a, b, w)
		if !ok {
			l = append(l, 0)
		}
		l = append(l, x)
	}
	return l
}

func TestAnswersHangOnNothingElse(t *testing.T) { // R4, P1: asked again, the other way round, and side by side, of any numbers
	r := random(2)
	ws := append(noWidths(), rising()...)
	var asked [][2]int64
	var got [][]int64
	for i := range 2000 {
		asked = append(asked, [2]int64{r.number(), r.number()})
		got = append(got, answers(asked[i][0], asked[i][1], ws[i%len(ws)]))
	}
	var all sync.WaitGroup
	for range 4 {
		all.Go(func() {
			for i := len(asked) - 1; i >= 0; i-- {
				if l := answers(asked[i][0], asked[i][1], ws[i%len(ws)]); !slices.Equal(l, got[i]) {
					t.Errorf("%v in %d: %v, and then %v", asked[i], ws[i%len(ws)], got[i], l)
				}
			}
		})
	}
	all.Wait()
}
