package scalar_test

import (
	"math/big"
	"strconv"
	"strings"

	"reredos/api"
)

// The signs of the chapter, in its turn.
const (
	dyads  = "+-*%!&|<>=~"
	monads = "-~*"
)

// signs are a text's bytes, each one as a text.
func signs(s string) []string { return strings.Split(s, "") }

// texts is a list, written short.
func texts(l ...string) []string { return l }

// nines are the most that so many figures tell.
func nines(n int) string { return strings.Repeat("9", n) }

// power is 10^n.
func power(n int) string { return "1" + strings.Repeat("0", n) }

// half is one half of 10^n.
func half(n int) string { return "5" + strings.Repeat("0", n-1) }

// numbers are some of all kinds, above and below 0: 0, of one figure, near the ends of words, of 50 and 51 figures (whose products are near the limit), and of 99 and 100.
func numbers() []string {
	l := texts("0")
	for _, s := range texts("1", "2", "3", "4", "5", "6", "7", "8", "9", "10", "11", "12", "99", "100", "127", "128", "255", "256", "999999999", "1000000000", "4294967295", "4294967296",
		"9223372036854775807", "9223372036854775808", "18446744073709551615", "18446744073709551616", "123456789012345678901234567890",
		nines(49), power(49), nines(50), power(50), nines(51), nines(99), power(98), power(99), "1"+strings.Repeat("0", 98)+"1", half(100), "4"+nines(99), half(99)+"1", nines(99)+"8", nines(100)) {
		l = append(l, s, "-"+s)
	}
	return l
}

// noNumbers are texts that no number is.
func noNumbers() []string {
	return texts("", "-", "--", "--1", "-0", "-00", "00", "01", "-01", "000", "007", "0-", "1-", "1-1", "-1-", "+", "+1", "+0", "-+1", " ", " 1", "1 ", "- 1", "1 2", "\t1", "1\n", "_", "_1", "_0", "-_1", "1_", "1_000", "1,000",
		"\x00", "1\x00", "\x001", "a", "1a", "a1", "-a", "1.0", ".", "1e3", "0x1", "1/", "/1", "1:", ":1", "\x80", "1\xff", "\xff", "٣", "１", "−1", "½", "²", "NaN", "!5", ",1", "7 % 2", "1+1", "{",
		nines(101), "-"+nines(101), power(100), "-"+power(100), "0"+nines(99), "-0"+nines(99), "0"+nines(100), strings.Repeat("0", 100), strings.Repeat("-", 100)+"1", nines(5000))
}

// noSigns are texts that no sign of two numbers is: nothing, each other byte, each two bytes of which one is a sign, signs with others beside them, and what looks like one.
func noSigns() []string {
	l := texts("", "+-*", "<=>", dyads, "+ +", "plus", "\u2212", "\u00d7", "\u00f7", "\u2264", "\uff0b", "\u02dc", "+\x00", "0", "1", "-1", "/", "\\", "'", "`", ".", ",", "#", "?", "@", "$", "_", "^", "%%", "!=", "F", "x", "{", strings.Repeat("+", 5000))
	for i := range 256 {
		c := string([]byte{byte(i)})
		if !strings.Contains(dyads, c) {
			l = append(l, c)
		}
		for _, s := range signs(dyads) {
			l = append(l, s+c, c+s)
		}
	}
	return l
}

// noMonads are texts that no sign of one number is: the others, and what is a sign of two alone.
func noMonads() []string {
	l := noSigns()
	for _, s := range signs(dyads) {
		if !strings.Contains(monads, s) {
			l = append(l, s)
		}
	}
	return l
}

// whole is a number to the library's eyes.
func whole(s string) *big.Int {
	x, ok := new(big.Int).SetString(s, 10)
	if !ok || x.String() != s {
		panic(strconv.Quote(s) + " is no number to big")
	}
	return x
}

// told is what a whole number is as an answer.
func told(x *big.Int) (string, api.Errno) {
	if x.CmpAbs(whole(nines(100))) > 0 {
		return "", api.ErrBig
	}
	return x.String(), api.OK
}

// parted is x divided by y, rounded down, and what is left.
func parted(x, y *big.Int) (*big.Int, *big.Int) {
	quotient, left := new(big.Int).DivMod(x, y, new(big.Int))
	if y.Sign() < 0 && left.Sign() > 0 { // what the library leaves is never below 0
		quotient.Sub(quotient, big.NewInt(1))
		left.Add(left, y)
	}
	return quotient, left
}

// bit is 1 of what is so, else 0.
func bit(is bool) string {
	if is {
		return "1"
	}
	return "0"
}

// said says the chapter's words of two numbers, once more.
func said(op, a, b string) (string, api.Errno) {
	x, y := whole(a), whole(b)
	below, above := x.Cmp(y) < 0, x.Cmp(y) > 0
	switch op {
	case "+":
		return told(new(big.Int).Add(x, y))
	case "-":
		return told(new(big.Int).Sub(x, y))
	case "*":
		return told(new(big.Int).Mul(x, y))
	case "%", "!":
		if y.Sign() == 0 {
			return "", api.ErrDom
		}
		quotient, left := parted(x, y)
		if op == "!" {
			quotient = left
		}
		return told(quotient)
	case "&":
		if above {
			return b, api.OK
		}
		return a, api.OK
	case "|":
		if below {
			return b, api.OK
		}
		return a, api.OK
	case "<":
		return bit(below), api.OK
	case ">":
		return bit(above), api.OK
	case "=":
		return bit(!below && !above), api.OK
	case "~":
		return bit(below || above), api.OK
	}
	return "", api.ErrArg
}

// saidOfOne says them of one number.
func saidOfOne(op, a string) (string, api.Errno) {
	x := whole(a)
	switch op {
	case "-":
		return new(big.Int).Neg(x).String(), api.OK
	case "~":
		return bit(x.Sign() == 0), api.OK
	case "*":
		return strconv.Itoa(x.Sign()), api.OK
	}
	return "", api.ErrArg
}

// random is a row of numbers that is the same each time.
type random uint64

func (r *random) below(n int) int {
	*r = *r*6364136223846793005 + 1442695040888963407
	return int(uint64(*r)>>33) % n
}

// number has 1 to so many figures, any ones.
func (r *random) number(most int) string {
	b := make([]byte, 1+r.below(most))
	for i := range b {
		b[i] = byte('0' + r.below(10))
	}
	s := strings.TrimLeft(string(b), "0")
	if s == "" {
		return "0"
	}
	return texts("", "-")[r.below(2)] + s
}

// long tells the begin of a text that is too long to be told.
func long(s string) string {
	if len(s) > 120 {
		return strconv.Quote(s[:100]) + " and so on, " + strconv.Itoa(len(s)) + " bytes"
	}
	return strconv.Quote(s)
}
