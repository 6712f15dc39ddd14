package num_test

import (
	"math/big"
	"strings"
	"sync"
	"testing"

	"reredos/api"
	"reredos/num"
)

// The calls, with the exact signatures that the chapter lists.
var (
	_ func(string) bool                     = num.May
	_ func(int64) string                    = num.Of
	_ func(string) (int64, bool)            = num.Int
	_ func(string) int                      = num.Sign
	_ func(string) string                   = num.Neg
	_ func(a, b string) int                 = num.Cmp
	_ func(a, b string) (string, api.Errno) = num.Add
	_ func(a, b string) (string, api.Errno) = num.Sub
	_ func(a, b string) (string, api.Errno) = num.Mul
	_ func(a, b string) (string, api.Errno) = num.Div
	_ func(a, b string) (string, api.Errno) = num.Mod
)

var calls = map[string]func(a, b string) (string, api.Errno){
	"Add": num.Add, "Sub": num.Sub, "Mul": num.Mul, "Div": num.Div, "Mod": num.Mod,
}

func nines(n int) string { return strings.Repeat("9", n) }

func power(n int) string { return "1" + strings.Repeat("0", n) }

// numbers are some of all kinds: near 0, near the ends of parts, words and limits.
func numbers() []string {
	l := []string{"0"}
	for _, s := range []string{
		"1", "2", "3", "7", "9", "10", "11", "99", "100", "127", "128", "255", "256", "1001",
		"99999999", "100000000", "999999999", "1000000000", "1000000001", "1999999999", "4294967295", "4294967296",
		"9223372036854775807", "9223372036854775808", "18446744073709551615", "18446744073709551616",
		"999999999999999999", "1000000000000000000", "500000000000000000", "1000000000999999999",
		"123456789012345678901234567890", "340282366920938463463374607431768211456",
		nines(49), nines(50), nines(51), nines(99), nines(100), power(49), power(50), power(98), power(99), "5" + strings.Repeat("0", 99),
	} {
		l = append(l, s, "-"+s)
	}
	return l
}

// wrong are texts that are no number.
func wrong() []string {
	return []string{
		"", "-", "--", "--1", "-0", "-00", "00", "01", "-01", "000", "0-", "1-", "1-1", "+1", "+0", " 1", "1 ", "1 2", "\t1", "1\n", "\x00", "1\x00",
		"a", "1a", "a1", "-a", "1.0", ".", "1e3", "0x1", "_1", "1_000", "1,000", "/", ":", "1/", "1:", "/1", ":1", "\x80", "1\xff", "٣", "１", "−1", "½", "NaN",
		nines(101), "-" + nines(101), power(100), "-" + power(100), "0" + nines(99), "0" + nines(100), nines(100000), strings.Repeat("0", 100), "-" + strings.Repeat("-", 100),
	}
}

func parsed(t *testing.T, s string) *big.Int {
	t.Helper()
	x, ok := new(big.Int).SetString(s, 10)
	if !ok {
		t.Fatalf("%q is no number to big", s)
	}
	return x
}

// bounded is what a whole number is as an answer.
func bounded(x *big.Int) (string, api.Errno) {
	s := x.String()
	if len(strings.TrimPrefix(s, "-")) > 100 {
		return "", api.ErrBig
	}
	return s, api.OK
}

// floored is x divided by y, rounded down, and what is left.
func floored(x, y *big.Int) (*big.Int, *big.Int) {
	q, r := new(big.Int).QuoRem(x, y, new(big.Int))
	if r.Sign() != 0 && r.Sign() != y.Sign() {
		q.Sub(q, big.NewInt(1))
		r.Add(r, y)
	}
	return q, r
}

func TestMayIsTrueOfNumbers(t *testing.T) { // P1.1
	for _, s := range numbers() {
		if !num.May(s) {
			t.Errorf("May(%q): false", s)
		}
	}
	for i := range 10 {
		if s := string(rune('0' + i)); !num.May(s) || !num.May("1"+s) {
			t.Errorf("May(%q): false", s)
		}
	}
}

func TestMayIsFalseOfOthers(t *testing.T) { // P1.1
	for _, s := range wrong() {
		if num.May(s) {
			t.Errorf("May(%q): true", s)
		}
	}
}

func TestMayOfEachByte(t *testing.T) { // P1.1: only the ten figures of ASCII
	for i := range 256 {
		c := string([]byte{byte(i)})
		figure := i >= '0' && i <= '9'
		if num.May(c) != figure || num.May("1"+c) != figure || num.May(c+"1") != (figure && i != '0' || i == '-') {
			t.Errorf("the byte %d", i)
		}
	}
}

func TestOfAndInt(t *testing.T) { // P1.1
	for _, c := range []struct {
		x int64
		s string
	}{
		{0, "0"}, {1, "1"}, {-1, "-1"}, {10, "10"}, {-128, "-128"}, {999999999, "999999999"}, {1000000000, "1000000000"},
		{1<<62 + 1, "4611686018427387905"}, {1<<63 - 1, "9223372036854775807"}, {-1 << 63, "-9223372036854775808"}, {-1<<63 + 1, "-9223372036854775807"},
	} {
		if s := num.Of(c.x); s != c.s || !num.May(s) {
			t.Errorf("Of(%d): %q", c.x, s)
		}
		if x, ok := num.Int(c.s); x != c.x || !ok {
			t.Errorf("Int(%q): %d, %v", c.s, x, ok)
		}
	}
}

func TestIntOfWhatDoesNotFit(t *testing.T) { // P1.1, R1
	l := append(wrong(), "9223372036854775808", "-9223372036854775809", "9223372036854775817", "18446744073709551616", "-18446744073709551616", "18446744073709551617", power(19), nines(100), "-"+nines(100))
	for _, s := range l {
		if x, ok := num.Int(s); x != 0 || ok {
			t.Errorf("Int(%q): %d, %v", s, x, ok)
		}
	}
}

func TestSignAndNeg(t *testing.T) { // P1.1
	for _, s := range numbers() {
		x := parsed(t, s)
		if num.Sign(s) != x.Sign() {
			t.Errorf("Sign(%q): %d", s, num.Sign(s))
		}
		if n := num.Neg(s); n != new(big.Int).Neg(x).String() || num.Neg(n) != s {
			t.Errorf("Neg(%q): %q", s, n)
		}
	}
	for _, s := range wrong() {
		if num.Sign(s) != 0 || num.Neg(s) != "" {
			t.Errorf("%q: Sign %d, Neg %q", s, num.Sign(s), num.Neg(s))
		}
	}
}

func TestCmp(t *testing.T) { // P1.1
	for _, a := range numbers() {
		for _, b := range numbers() {
			if c := num.Cmp(a, b); c != parsed(t, a).Cmp(parsed(t, b)) {
				t.Errorf("Cmp(%q, %q): %d", a, b, c)
			}
		}
	}
}

func TestCmpOfOthersIsZero(t *testing.T) { // P1.1
	for _, s := range wrong() {
		for _, x := range []string{"0", "1", "-1", nines(100), s} {
			if num.Cmp(s, x) != 0 || num.Cmp(x, s) != 0 {
				t.Errorf("Cmp of %q and %q", s, x)
			}
		}
	}
}

// hold holds all five calls against whole numbers of the library.
func hold(t *testing.T, a, b string) {
	t.Helper()
	x, y := parsed(t, a), parsed(t, b)
	same := func(name string, z *big.Int) {
		t.Helper()
		want, wantErr := bounded(z)
		if got, err := calls[name](a, b); got != want || err != wantErr {
			t.Errorf("%s(%q, %q): %q, %d; not %q, %d", name, a, b, got, err, want, wantErr)
		}
	}
	same("Add", new(big.Int).Add(x, y))
	same("Sub", new(big.Int).Sub(x, y))
	same("Mul", new(big.Int).Mul(x, y))
	if y.Sign() != 0 {
		q, r := floored(x, y)
		same("Div", q)
		same("Mod", r)
	}
}

func TestArithmetic(t *testing.T) { // P1.2
	for _, a := range numbers() {
		for _, b := range numbers() {
			hold(t, a, b)
		}
	}
}

func TestSmallNumbers(t *testing.T) { // P1.2: each sign of each side, each rest
	for a := int64(-30); a <= 30; a++ {
		for b := int64(-12); b <= 12; b++ {
			hold(t, num.Of(a), num.Of(b))
		}
	}
}

// random is a row of numbers that is the same each time.
type random uint64

func (r *random) below(n int) int {
	*r = *r*6364136223846793005 + 1442695040888963407
	return int(uint64(*r)>>33) % n
}

// number has 1 to 100 figures: any ones, or long rows of 0 and 9, at which guesses of quotients are the worst.
func (r *random) number() string {
	b := make([]byte, 1+r.below(100))
	rows := r.below(2) == 0
	figure := byte('9')
	for i := range b {
		if !rows {
			figure = byte('0' + r.below(10))
		} else if r.below(9) == 0 {
			figure = "00099918"[r.below(8)]
		}
		b[i] = figure
	}
	s := strings.TrimLeft(string(b), "0")
	if s == "" {
		return "0"
	}
	return []string{"", "-"}[r.below(2)] + s
}

func TestManyNumbers(t *testing.T) { // P1.2
	r := random(1)
	for range 20000 {
		hold(t, r.number(), r.number())
	}
}

func TestGuessedQuotients(t *testing.T) { // P1.2: divisors that are just what their first figures say, and dividends just below multiples of them
	for _, b := range []string{"1000000000999999999", "500000000999999999", "999999999000000001", "500000000000000001", "1000000000000000000000000001", "4999999999999999999"} {
		for _, q := range []string{"1", "2", "999999998", "999999999", "1000000000", "999999999999999999", "999999998999999999", "500000000499999999"} {
			p, _ := num.Mul(b, q)
			for _, d := range []string{"-2", "-1", "0", "1"} {
				a, _ := num.Add(p, d)
				hold(t, a, b)
				hold(t, num.Neg(a), b)
				hold(t, a, num.Neg(b))
			}
		}
	}
}

func TestWhatIsTooLarge(t *testing.T) { // P1.2, R1: 100 figures, and 101
	for _, c := range []struct {
		name, a, b, want string
		err              api.Errno
	}{
		{"Add", nines(99) + "8", "1", nines(100), api.OK},
		{"Add", nines(100), "0", nines(100), api.OK},
		{"Add", nines(100), "1", "", api.ErrBig},
		{"Add", "1", nines(100), "", api.ErrBig},
		{"Add", "-" + nines(100), "-1", "", api.ErrBig},
		{"Add", nines(100), nines(100), "", api.ErrBig},
		{"Add", nines(100), "-" + nines(100), "0", api.OK},
		{"Sub", "-" + nines(99) + "8", "1", "-" + nines(100), api.OK},
		{"Sub", "-" + nines(100), "1", "", api.ErrBig},
		{"Sub", nines(100), "-1", "", api.ErrBig},
		{"Sub", "-1", nines(100), "", api.ErrBig},
		{"Sub", "0", nines(100), "-" + nines(100), api.OK},
		{"Mul", power(50), power(49), power(99), api.OK},
		{"Mul", power(50), "-" + power(49), "-" + power(99), api.OK},
		{"Mul", power(50), power(50), "", api.ErrBig},
		{"Mul", "-" + power(50), power(50), "", api.ErrBig},
		{"Mul", nines(100), nines(100), "", api.ErrBig},
		{"Mul", nines(100), "1", nines(100), api.OK},
		{"Mul", nines(100), "-1", "-" + nines(100), api.OK},
		{"Mul", nines(100), "0", "0", api.OK},
		{"Mul", "-" + nines(100), "0", "0", api.OK},
		{"Div", nines(100), "1", nines(100), api.OK},
		{"Div", nines(100), "-1", "-" + nines(100), api.OK},
		{"Div", nines(100), nines(100), "1", api.OK},
		{"Div", "1", "-" + nines(100), "-1", api.OK},
		{"Mod", "1", "-" + nines(100), "-" + nines(99) + "8", api.OK},
		{"Mod", "-1", nines(100), nines(99) + "8", api.OK},
	} {
		if got, err := calls[c.name](c.a, c.b); got != c.want || err != c.err {
			t.Errorf("%s(%q, %q): %q, %d", c.name, c.a, c.b, got, err)
		}
	}
}

func TestDivisionRoundsDown(t *testing.T) { // P1.2
	for _, c := range []struct{ a, b, quotient, left string }{
		{"-7", "2", "-4", "1"}, {"7", "2", "3", "1"}, {"7", "-2", "-4", "-1"}, {"-7", "-2", "3", "-1"},
		{"6", "2", "3", "0"}, {"-6", "2", "-3", "0"}, {"6", "-2", "-3", "0"}, {"-6", "-2", "3", "0"},
		{"0", "5", "0", "0"}, {"0", "-5", "0", "0"}, {"1", "5", "0", "1"}, {"-1", "5", "-1", "4"}, {"1", "-5", "-1", "-4"}, {"-1", "-5", "0", "-1"},
	} {
		quotient, e := num.Div(c.a, c.b)
		left, f := num.Mod(c.a, c.b)
		if quotient != c.quotient || left != c.left || e != api.OK || f != api.OK {
			t.Errorf("%s by %s: %q, %q, %d, %d", c.a, c.b, quotient, left, e, f)
		}
	}
}

func TestDivisionByZero(t *testing.T) { // P1.2, R1
	for _, a := range numbers() {
		for _, name := range []string{"Div", "Mod"} {
			if s, e := calls[name](a, "0"); s != "" || e != api.ErrDom {
				t.Errorf("%s(%q, 0): %q, %d", name, a, s, e)
			}
		}
	}
}

func TestWhatIsNoNumber(t *testing.T) { // P1.2, R1: ErrArg is named first
	for name, call := range calls {
		for _, s := range wrong() {
			for _, x := range []string{"0", "1", "-5", nines(100), s} {
				if r, e := call(s, x); r != "" || e != api.ErrArg {
					t.Errorf("%s(%q, %q): %q, %d", name, s, x, r, e)
				}
				if r, e := call(x, s); r != "" || e != api.ErrArg {
					t.Errorf("%s(%q, %q): %q, %d", name, x, s, r, e)
				}
			}
		}
	}
}

// must is an answer that has no error.
func must(t *testing.T, name, a, b string) string {
	t.Helper()
	s, e := calls[name](a, b)
	if e != api.OK || !num.May(s) {
		t.Fatalf("%s(%q, %q): %q, %d", name, a, b, s, e)
	}
	return s
}

func TestLawsOfSumsAndProducts(t *testing.T) { // P1.3
	l := []string{"0", "1", "-1", "2", "-7", "999999999", "-1000000000", "123456789012345678901", "-" + nines(30), power(32)}
	for _, a := range l {
		for _, b := range l {
			for _, name := range []string{"Add", "Mul"} {
				if must(t, name, a, b) != must(t, name, b, a) {
					t.Errorf("%s of %s and %s hangs on the order", name, a, b)
				}
				for _, c := range l {
					if must(t, name, must(t, name, a, b), c) != must(t, name, a, must(t, name, b, c)) {
						t.Errorf("%s of %s, %s and %s hangs on the order", name, a, b, c)
					}
				}
			}
			for _, c := range l {
				if must(t, "Mul", a, must(t, "Add", b, c)) != must(t, "Add", must(t, "Mul", a, b), must(t, "Mul", a, c)) {
					t.Errorf("%s times %s and %s together", a, b, c)
				}
			}
			if must(t, "Sub", must(t, "Add", a, b), b) != a || must(t, "Sub", a, b) != num.Neg(must(t, "Sub", b, a)) || must(t, "Add", a, num.Neg(b)) != must(t, "Sub", a, b) {
				t.Errorf("%s less %s", a, b)
			}
		}
	}
}

func TestLawsOfWhatIsLeft(t *testing.T) { // P1.3
	size := func(s string) string { return strings.TrimPrefix(s, "-") }
	for _, a := range numbers() {
		for _, b := range numbers() {
			if b == "0" {
				continue
			}
			quotient, left := must(t, "Div", a, b), must(t, "Mod", a, b)
			if num.Sign(left) != 0 && num.Sign(left) != num.Sign(b) {
				t.Errorf("%s is left of %s by %s", left, a, b)
			}
			if num.Cmp(size(left), size(b)) >= 0 {
				t.Errorf("%s is left of %s by %s", left, a, b)
			}
			x := new(big.Int).Mul(parsed(t, quotient), parsed(t, b))
			if x.Add(x, parsed(t, left)).String() != a {
				t.Errorf("%s by %s: %s, and %s", a, b, quotient, left)
			}
		}
	}
}

// answers are what all calls tell of two texts.
func answers(a, b string) []any {
	x, ok := num.Int(a)
	l := []any{num.May(a), num.Of(x), x, ok, num.Sign(a), num.Neg(a), num.Cmp(a, b)}
	for _, name := range []string{"Add", "Sub", "Mul", "Div", "Mod"} {
		s, e := calls[name](a, b)
		l = append(l, s, e)
	}
	return l
}

func TestAnyTexts(t *testing.T) { // P1, R5, R1: no panic, and nothing beside an error
	r := random(2)
	text := func() string {
		b := make([]byte, r.below(120))
		for i := range b {
			b[i] = "0123456789-- _+.\x00\xff"[r.below(18)]
		}
		return string(b)
	}
	for range 20000 {
		a, b := text(), r.number()
		for _, l := range [][]any{answers(a, b), answers(b, a)} {
			for i := 7; i < len(l); i += 2 {
				if e := l[i+1].(api.Errno); e != api.OK && l[i] != "" || e == api.OK && !num.May(l[i].(string)) || e == api.ErrArg == (num.May(a) && num.May(b)) {
					t.Fatalf("%q and %q: %v", a, b, l)
				}
			}
		}
	}
}

func TestAnswersHangOnNothingElse(t *testing.T) { // R3, R4: asked again, the other way round, and side by side
	l := append(numbers(), wrong()...)
	pairs := make([][]any, 0, len(l)*len(l))
	for _, a := range l {
		for _, b := range l {
			pairs = append(pairs, answers(a, b))
		}
	}
	var all sync.WaitGroup
	for range 4 {
		all.Go(func() {
			for k := len(pairs) - 1; k >= 0; k-- {
				for i, x := range answers(l[k/len(l)], l[k%len(l)]) {
					if x != pairs[k][i] {
						t.Errorf("%q and %q: %v, and then %v", l[k/len(l)], l[k%len(l)], pairs[k][i], x)
					}
				}
			}
		})
	}
	all.Wait()
}
