package scalar_test

import (
	"slices"
	"strconv"
	"strings"
	"sync"
	"testing"

	"reredos/api"
	"reredos/num"
	"reredos/scalar"
)

// The calls, with the exact signatures that the chapter lists.
var (
	_ func(op, a, b string) (string, api.Errno) = scalar.Dyad
	_ func(op, a string) (string, api.Errno)    = scalar.Monad
	_ func() string                             = scalar.Dyads
	_ func() string                             = scalar.Monads
	_ func(op string) bool                      = scalar.Whole
	_ func(op string) (string, bool)            = scalar.Unit
)

// dyad asks what a sign does with two numbers.
func dyad(t *testing.T, op, a, b, want string, wantErr api.Errno) {
	t.Helper()
	if got, err := scalar.Dyad(op, a, b); got != want || err != wantErr {
		t.Errorf("%s %s %s: %s, %d; not %s, %d", long(a), long(op), long(b), long(got), err, long(want), wantErr)
	}
}

// monad asks what a sign does with one.
func monad(t *testing.T, op, a, want string, wantErr api.Errno) {
	t.Helper()
	if got, err := scalar.Monad(op, a); got != want || err != wantErr {
		t.Errorf("%s %s: %s, %d; not %s, %d", long(op), long(a), long(got), err, long(want), wantErr)
	}
}

// hold holds each sign of two numbers against the chapter's words.
func hold(t *testing.T, a, b string) {
	t.Helper()
	for _, op := range signs(dyads) {
		want, err := said(op, a, b)
		dyad(t, op, a, b, want, err)
	}
}

// holdOne holds each sign of one number against them.
func holdOne(t *testing.T, a string) {
	t.Helper()
	for _, op := range signs(monads) {
		want, err := saidOfOne(op, a)
		monad(t, op, a, want, err)
	}
}

func TestExample(t *testing.T) { // the chapter's
	dyad(t, "%", "7", "2", "3", api.OK)
	dyad(t, "!", "7", "2", "1", api.OK)
	dyad(t, "!", "-7", "2", "1", api.OK)
}

func TestSigns(t *testing.T) { // P12.2: in the chapter's turn
	if s := scalar.Dyads(); s != "+-*%!&|<>=~" {
		t.Errorf("Dyads: %q", s)
	}
	if s := scalar.Monads(); s != "-~*" {
		t.Errorf("Monads: %q", s)
	}
}

func TestWritten(t *testing.T) { // P12.1: what each sign does, number by number
	for _, c := range []struct{ a, b, want string }{ // what + - * % ! & | < > = ~ tell
		{"0", "1", "1 -1 0 0 0 0 1 1 0 0 1"},
		{"1", "1", "2 0 1 1 0 1 1 0 0 1 0"},
		{"-1", "1", "0 -2 -1 -1 0 -1 1 1 0 0 1"},
		{"1", "-1", "0 2 -1 -1 0 -1 1 0 1 0 1"},
		{"-1", "-1", "-2 0 1 1 0 -1 -1 0 0 1 0"},
		{"7", "2", "9 5 14 3 1 2 7 0 1 0 1"},
		{"-7", "2", "-5 -9 -14 -4 1 -7 2 1 0 0 1"},
		{"7", "-2", "5 9 -14 -4 -1 -2 7 0 1 0 1"},
		{"-7", "-2", "-9 -5 14 3 -1 -7 -2 1 0 0 1"},
		{"2", "7", "9 -5 14 0 2 2 7 1 0 0 1"},
		{"-2", "7", "5 -9 -14 -1 5 -2 7 1 0 0 1"},
		{"2", "-7", "-5 9 -14 -1 -5 -7 2 0 1 0 1"},
		{"-2", "-7", "-9 5 14 0 -2 -7 -2 0 1 0 1"},
		{"6", "3", "9 3 18 2 0 3 6 0 1 0 1"},
		{"-6", "3", "-3 -9 -18 -2 0 -6 3 1 0 0 1"},
		{"6", "-3", "3 9 -18 -2 0 -3 6 0 1 0 1"},
		{"-6", "-3", "-9 -3 18 2 0 -6 -3 1 0 0 1"},
		{"9", "10", "19 -1 90 0 9 9 10 1 0 0 1"},
		{"10", "9", "19 1 90 1 1 9 10 0 1 0 1"},
		{"-9", "-10", "-19 1 90 0 -9 -10 -9 0 1 0 1"},
		{"100", "99", "199 1 9900 1 1 99 100 0 1 0 1"},
		{"9223372036854775807", "1", "9223372036854775808 9223372036854775806 9223372036854775807 9223372036854775807 0 1 9223372036854775807 0 1 0 1"},
	} {
		for i, op := range signs(dyads) {
			dyad(t, op, c.a, c.b, strings.Fields(c.want)[i], api.OK)
		}
		hold(t, c.a, c.b)
	}
}

func TestWrittenOfOne(t *testing.T) { // P12.2
	for _, c := range []struct{ a, negated, not, sign string }{
		{"0", "0", "1", "0"}, {"1", "-1", "0", "1"}, {"-1", "1", "0", "-1"}, {"9", "-9", "0", "1"}, {"-9", "9", "0", "-1"}, {"10", "-10", "0", "1"}, {"-10", "10", "0", "-1"},
		{"9223372036854775808", "-9223372036854775808", "0", "1"}, {"-9223372036854775808", "9223372036854775808", "0", "-1"},
		{nines(100), "-" + nines(100), "0", "1"}, {"-" + nines(100), nines(100), "0", "-1"}, {power(99), "-" + power(99), "0", "1"}, {"-" + power(99), power(99), "0", "-1"},
	} {
		monad(t, "-", c.a, c.negated, api.OK)
		monad(t, "~", c.a, c.not, api.OK)
		monad(t, "*", c.a, c.sign, api.OK)
		holdOne(t, c.a)
	}
}

func TestAllPairs(t *testing.T) { // P12.1, P12.2
	for _, a := range numbers() {
		for _, b := range numbers() {
			hold(t, a, b)
		}
		holdOne(t, a)
	}
}

func TestSmallNumbers(t *testing.T) { // P12.1, P12.2: each sign of each side, each rest
	for a := -30; a <= 30; a++ {
		for b := -30; b <= 30; b++ {
			hold(t, strconv.Itoa(a), strconv.Itoa(b))
		}
		holdOne(t, strconv.Itoa(a))
	}
}

func TestManyNumbers(t *testing.T) { // P12.1, P12.2: of all lengths, and of nearly one length
	r := random(12)
	for range 4000 {
		a, b := r.number(100), r.number(100)
		hold(t, a, b)
		hold(t, r.number(20), r.number(20))
		hold(t, a, a)
		if near, err := num.Add(a, r.number(2)); err == api.OK {
			hold(t, a, near)
			hold(t, near, a)
		}
		holdOne(t, a)
	}
}

func TestNum(t *testing.T) { // P12.1, P12.2: num's answers and errors, of what is no number, too
	for op, call := range map[string]func(a, b string) (string, api.Errno){"+": num.Add, "-": num.Sub, "*": num.Mul, "%": num.Div, "!": num.Mod} {
		l := slices.Concat(numbers(), noNumbers())
		for _, a := range l {
			for _, b := range l {
				want, err := call(a, b)
				dyad(t, op, a, b, want, err)
			}
		}
	}
}

func TestWhatIsTooLarge(t *testing.T) { // P12.1, R1: MaxDigits figures, and one more
	for _, c := range []struct {
		op, a, b, want string
		err            api.Errno
	}{
		{"+", nines(99) + "8", "1", nines(100), api.OK}, {"+", "1", nines(99) + "8", nines(100), api.OK}, {"+", nines(100), "0", nines(100), api.OK}, {"+", "0", "-" + nines(100), "-" + nines(100), api.OK}, {"+", half(100), "4" + nines(99), nines(100), api.OK}, {"+", nines(100), "-" + nines(100), "0", api.OK},
		{"+", nines(100), "1", "", api.ErrBig}, {"+", "1", nines(100), "", api.ErrBig}, {"+", half(100), half(100), "", api.ErrBig}, {"+", "-" + nines(100), "-1", "", api.ErrBig}, {"+", "-" + half(100), "-" + half(100), "", api.ErrBig}, {"+", nines(100), nines(100), "", api.ErrBig},
		{"-", "-" + nines(99) + "8", "1", "-" + nines(100), api.OK}, {"-", nines(99) + "8", "-1", nines(100), api.OK}, {"-", "0", nines(100), "-" + nines(100), api.OK}, {"-", "0", "-" + nines(100), nines(100), api.OK}, {"-", nines(100), nines(100), "0", api.OK}, {"-", half(100), "-4" + nines(99), nines(100), api.OK},
		{"-", "-" + nines(100), "1", "", api.ErrBig}, {"-", nines(100), "-1", "", api.ErrBig}, {"-", "-1", nines(100), "", api.ErrBig}, {"-", "1", "-" + nines(100), "", api.ErrBig}, {"-", half(100), "-" + half(100), "", api.ErrBig}, {"-", "-" + nines(100), nines(100), "", api.ErrBig},
		{"*", power(50), power(49), power(99), api.OK}, {"*", "-" + power(50), power(49), "-" + power(99), api.OK}, {"*", nines(50), power(50), nines(50) + strings.Repeat("0", 50), api.OK}, {"*", nines(100), "1", nines(100), api.OK}, {"*", "-1", nines(100), "-" + nines(100), api.OK}, {"*", nines(100), "0", "0", api.OK}, {"*", "0", "-" + nines(100), "0", api.OK}, {"*", nines(50), nines(50), nines(49) + "8" + strings.Repeat("0", 49) + "1", api.OK}, {"*", strings.Repeat("3", 100), "3", nines(100), api.OK},
		{"*", power(50), power(50), "", api.ErrBig}, {"*", "-" + power(50), power(50), "", api.ErrBig}, {"*", "-" + power(50), "-" + power(50), "", api.ErrBig}, {"*", nines(100), "2", "", api.ErrBig}, {"*", "2", half(100), "", api.ErrBig}, {"*", half(100), "-2", "", api.ErrBig}, {"*", nines(51), power(50), "", api.ErrBig}, {"*", nines(100), nines(100), "", api.ErrBig},
		{"%", nines(100), "1", nines(100), api.OK}, {"%", nines(100), "-1", "-" + nines(100), api.OK}, {"%", nines(100), nines(100), "1", api.OK}, {"%", "1", nines(100), "0", api.OK}, {"%", "-1", nines(100), "-1", api.OK},
		{"!", nines(100), "1", "0", api.OK}, {"!", nines(100), nines(100), "0", api.OK}, {"!", "1", nines(100), "1", api.OK}, {"!", "-1", nines(100), nines(99) + "8", api.OK}, {"!", "1", "-" + nines(100), "-" + nines(99) + "8", api.OK}, {"!", "-1", "-" + nines(100), "-1", api.OK},
		{"&", nines(100), "-" + nines(100), "-" + nines(100), api.OK}, {"|", "-" + nines(100), nines(100), nines(100), api.OK}, {"&", nines(100), nines(99), nines(99), api.OK}, {"|", "-" + nines(100), "-" + nines(99), "-" + nines(99), api.OK}, {"<", nines(99), nines(100), "1", api.OK}, {"=", nines(100), nines(100), "1", api.OK}, {"~", nines(100), nines(99) + "8", "1", api.OK},
		{"+", power(100), "1", "", api.ErrArg}, {"-", "1", nines(101), "", api.ErrArg}, {"*", power(100), "0", "", api.ErrArg}, {"%", nines(101), nines(101), "", api.ErrArg}, {"!", "0", power(100), "", api.ErrArg}, {"&", "1", nines(101), "", api.ErrArg}, {"|", "-" + nines(101), "1", "", api.ErrArg}, {"<", "1", power(100), "", api.ErrArg}, {">", power(100), "1", "", api.ErrArg}, {"=", power(100), power(100), "", api.ErrArg}, {"~", nines(101), "1", "", api.ErrArg},
	} {
		dyad(t, c.op, c.a, c.b, c.want, c.err)
	}
	for _, op := range signs(monads) {
		for _, a := range texts(nines(101), power(100), "-"+nines(101), "-"+power(100)) {
			monad(t, op, a, "", api.ErrArg)
		}
	}
}

func TestDivisionByZero(t *testing.T) { // P12.1, R1
	for _, a := range numbers() {
		for _, op := range texts("%", "!") {
			dyad(t, op, a, "0", "", api.ErrDom)
			if a != "0" {
				dyad(t, op, "0", a, "0", api.OK)
			}
		}
	}
	for _, s := range noNumbers() { // what is no number is told ahead of a divisor of 0
		dyad(t, "%", s, "0", "", api.ErrArg)
		dyad(t, "!", s, "0", "", api.ErrArg)
	}
}

func TestQuotientAndRest(t *testing.T) { // P12.1: what is left is a less b times the quotient, has b's sign, and is nearer to 0 than it
	for _, a := range numbers() {
		for _, b := range numbers() {
			if b == "0" {
				continue
			}
			quotient, e := scalar.Dyad("%", a, b)
			left, f := scalar.Dyad("!", a, b)
			if e != api.OK || f != api.OK {
				t.Errorf("%s by %s: %d, %d", a, b, e, f)
				continue
			}
			x, y, q, r := whole(a), whole(b), whole(quotient), whole(left)
			if r.Sign() != 0 && r.Sign() != y.Sign() || r.CmpAbs(y) >= 0 || q.Mul(q, y).Add(q, r).Cmp(x) != 0 {
				t.Errorf("%s by %s: %s, and %s is left", a, b, quotient, left)
			}
		}
	}
}

func TestNoNumbers(t *testing.T) { // P12.1, P12.2, R1: the one, the other, both
	for _, s := range noNumbers() {
		for _, op := range signs(dyads) {
			for _, n := range texts("0", "1", "-1", "7", nines(100), "-"+nines(100)) {
				dyad(t, op, s, n, "", api.ErrArg)
				dyad(t, op, n, s, "", api.ErrArg)
			}
			for _, other := range noNumbers() {
				dyad(t, op, s, other, "", api.ErrArg)
			}
		}
		for _, op := range signs(monads) {
			monad(t, op, s, "", api.ErrArg)
		}
	}
}

func TestEachByteAsNumber(t *testing.T) { // P12.1, P12.2: just the ten figures are numbers, and what begins with a hyphen
	for i := range 256 {
		c := string([]byte{byte(i)})
		for _, s := range texts(c, c+"7", "1"+c, "1"+c+"7", "-"+c) {
			if num.May(s) {
				hold(t, s, "3")
				hold(t, "3", s)
				holdOne(t, s)
				continue
			}
			for _, op := range signs(dyads) {
				dyad(t, op, s, "3", "", api.ErrArg)
				dyad(t, op, "3", s, "", api.ErrArg)
			}
			for _, op := range signs(monads) {
				monad(t, op, s, "", api.ErrArg)
			}
		}
	}
}

func TestNoSigns(t *testing.T) { // P12.1, P12.2, R1: with numbers, and with what is none
	for _, op := range noSigns() {
		dyad(t, op, "7", "2", "", api.ErrArg)
		dyad(t, op, "0", "0", "", api.ErrArg)
		dyad(t, op, nines(100), nines(100), "", api.ErrArg)
		dyad(t, op, "01", "2", "", api.ErrArg)
		dyad(t, op, "7", "", "", api.ErrArg)
		dyad(t, op, "-", "+1", "", api.ErrArg)
	}
	for _, op := range noMonads() {
		monad(t, op, "7", "", api.ErrArg)
		monad(t, op, "0", "", api.ErrArg)
		monad(t, op, "-"+nines(100), "", api.ErrArg)
		monad(t, op, "", "", api.ErrArg)
		monad(t, op, "-0", "", api.ErrArg)
	}
}

func TestJustTheseSigns(t *testing.T) { // P12.2: of all texts of up to two bytes, just Dyads' and Monads' do anything
	all := texts("")
	for i := range 256 {
		all = append(all, string([]byte{byte(i)}))
		for j := range 256 {
			all = append(all, string([]byte{byte(i), byte(j)}))
		}
	}
	var two, one, whole, units []string
	for _, op := range all {
		if _, err := scalar.Dyad(op, "7", "2"); err == api.OK {
			two = append(two, op)
		}
		if _, err := scalar.Monad(op, "7"); err == api.OK {
			one = append(one, op)
		}
		if scalar.Whole(op) {
			whole = append(whole, op)
		}
		if _, ok := scalar.Unit(op); ok {
			units = append(units, op)
		}
	}
	for _, c := range []struct {
		call      string
		got, want []string
	}{{"Dyad", two, signs(scalar.Dyads())}, {"Monad", one, signs(scalar.Monads())}, {"Whole", whole, signs("+-*&|<>=~")}, {"Unit", units, signs("+*")}} {
		slices.Sort(c.want)
		if !slices.Equal(c.got, c.want) { // all stand rising
			t.Errorf("%s does something of %q, not of %q", c.call, c.got, c.want)
		}
	}
}

func TestLesserAndGreater(t *testing.T) { // P12.1: of two that are the same that one
	for _, a := range numbers() {
		dyad(t, "&", a, a, a, api.OK)
		dyad(t, "|", a, a, a, api.OK)
		for _, b := range numbers() {
			lesser, _ := scalar.Dyad("&", a, b)
			greater, _ := scalar.Dyad("|", a, b)
			if num.Cmp(lesser, greater) > 0 || (lesser != a || greater != b) && (lesser != b || greater != a) {
				t.Errorf("of %s and %s %s is the lesser and %s the greater one", a, b, lesser, greater)
			}
		}
	}
}

func TestJustOneIsSo(t *testing.T) { // P12.4: of <, > and =; and ~ is what = isn't
	for _, a := range numbers() {
		for _, b := range numbers() {
			var told string
			for _, op := range signs("<>=~") {
				s, _ := scalar.Dyad(op, a, b)
				told += s
			}
			if !slices.Contains(texts("1001", "0101", "0010"), told) || told == "0010" != (a == b) {
				t.Errorf("of %s and %s < > = ~ tell %s", a, b, told)
			}
		}
	}
}

func TestNot(t *testing.T) { // P12.2: ~ of one number tells 1 of 0 alone
	for _, a := range numbers() {
		monad(t, "~", a, bit(a == "0"), api.OK)
	}
}

func TestWhole(t *testing.T) { // P12.3
	for i, op := range signs(dyads) {
		if scalar.Whole(op) != ("11100111111"[i] == '1') {
			t.Errorf("Whole(%q): %v", op, scalar.Whole(op))
		}
	}
	for _, op := range noSigns() {
		if scalar.Whole(op) {
			t.Errorf("Whole(%s): true", long(op))
		}
	}
}

func TestWholeHasNoErrDom(t *testing.T) { // P12.4; what isn't whole has it by 0
	l := slices.Concat(numbers(), noNumbers())
	for _, op := range append(signs(dyads), noSigns()[:40]...) {
		domain := 0
		for _, a := range l {
			for _, b := range l {
				if _, err := scalar.Dyad(op, a, b); err == api.ErrDom {
					domain++
				}
			}
		}
		if want := map[bool]int{true: len(numbers())}[op == "%" || op == "!"]; domain != want || scalar.Whole(op) && domain > 0 {
			t.Errorf("%s has ErrDom %d times, not %d", long(op), domain, want)
		}
	}
}

func TestUnit(t *testing.T) { // P12.3, R1
	for _, op := range signs(dyads) {
		want := map[string]string{"+": "0", "*": "1"}[op]
		if s, ok := scalar.Unit(op); s != want || ok != (want != "") {
			t.Errorf("Unit(%q): %q, %v", op, s, ok)
		}
	}
	for _, op := range noSigns() {
		if s, ok := scalar.Unit(op); s != "" || ok {
			t.Errorf("Unit(%s): %q, %v", long(op), s, ok)
		}
	}
}

func TestUnitsLeaveNumbers(t *testing.T) { // P12.4: from the left and the right
	for _, op := range signs(scalar.Dyads()) {
		unit, ok := scalar.Unit(op)
		if !ok {
			continue
		}
		for _, a := range numbers() {
			dyad(t, op, unit, a, a, api.OK)
			dyad(t, op, a, unit, a, api.OK)
		}
	}
}

func TestWhatIsHandedInStays(t *testing.T) { // R3
	for _, op := range slices.Concat(signs(dyads), texts("", "?")) {
		for _, a := range slices.Concat(numbers(), noNumbers()) {
			sign, number := strings.Clone(op), strings.Clone(a)
			scalar.Dyad(sign, number, number)
			scalar.Dyad(sign, number, "1")
			scalar.Dyad(sign, "1", number)
			scalar.Monad(sign, number)
			scalar.Whole(sign)
			scalar.Unit(sign)
			if sign != op || number != a {
				t.Errorf("%s and %s are %s and %s now", long(op), long(a), long(sign), long(number))
			}
		}
	}
}

// answer is what all calls tell of one text as a sign, and two as numbers.
type answer struct {
	op, a, b          string
	dyad, monad, unit string
	dyadErr, monadErr api.Errno
	whole, hasUnit    bool
	dyads, monads     string
}

func asked(op, a, b string) answer {
	r := answer{op: op, a: a, b: b, whole: scalar.Whole(op), dyads: scalar.Dyads(), monads: scalar.Monads()}
	r.dyad, r.dyadErr = scalar.Dyad(op, a, b)
	r.monad, r.monadErr = scalar.Monad(op, a)
	r.unit, r.hasUnit = scalar.Unit(op)
	return r
}

func TestAnswersHangOnNothingElse(t *testing.T) { // R4: asked again in reverse, from four sides at once
	var first []answer
	r := random(4)
	l := slices.Concat(numbers(), noNumbers()[:20])
	for _, op := range slices.Concat(signs(dyads), noSigns()[:60]) {
		for range 30 {
			first = append(first, asked(op, l[r.below(len(l))], l[r.below(len(l))]))
		}
	}
	var all sync.WaitGroup
	for range 4 {
		all.Go(func() {
			for _, was := range slices.Backward(first) {
				if again := asked(was.op, was.a, was.b); again != was {
					t.Errorf("%+v, then %+v", was, again)
				}
			}
		})
	}
	all.Wait()
}

func TestNothingBesideErrors(t *testing.T) { // R1: an answer has a number or an error
	l := slices.Concat(numbers(), noNumbers())
	for _, op := range slices.Concat(signs(dyads), texts("", "?", "+-")) {
		for _, a := range l {
			for _, b := range l {
				if s, err := scalar.Dyad(op, a, b); num.May(s) != (err == api.OK) || err != api.OK && s != "" {
					t.Errorf("%s %s %s: %s, %d", long(a), long(op), long(b), long(s), err)
				}
			}
			if s, err := scalar.Monad(op, a); num.May(s) != (err == api.OK) || err != api.OK && s != "" {
				t.Errorf("%s %s: %s, %d", long(op), long(a), long(s), err)
			}
		}
	}
}
