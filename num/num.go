// Package num is layer 1: whole numbers, however large (see shared/doc/01-num.md).
package num

import (
	"strconv"
	"strings"

	"reredos/api"
)

// May tells whether a text is a number.
func May(s string) bool {
	figures := strings.TrimPrefix(s, hyphen)
	if len(figures) == 0 || len(figures) > api.MaxDigits {
		return false
	}
	for i := range len(figures) {
		if figures[i] < '0' || figures[i] > '9' {
			return false
		}
	}
	return figures[0] != '0' || s == zero
}

// Of is an int64 as a number.
func Of(x int64) string {
	return strconv.FormatInt(x, 10)
}

// Int is a number as an int64.
func Int(s string) (int64, bool) {
	if !May(s) {
		return 0, false
	}
	x, err := strconv.ParseInt(s, 10, 64)
	if err != nil { // beside its error ParseInt tells the nearest int64
		return 0, false
	}
	return x, true
}

// Sign is where a number is, seen from 0.
func Sign(s string) int {
	n, _ := read(s)
	return int(n.sign)
}

// Neg is a number with the other sign.
func Neg(s string) string {
	n, ok := read(s)
	if !ok {
		return ""
	}
	return n.negated().text()
}

// Cmp tells which of two numbers is greater.
func Cmp(a, b string) int {
	n, okA := read(a)
	m, okB := read(b)
	if !okA || !okB {
		return 0
	}
	return n.against(m)
}

// Add is two numbers together.
func Add(a, b string) (string, api.Errno) {
	return together(a, b, func(n, m number) (string, api.Errno) {
		return n.plus(m).told()
	})
}

// Sub is a number less another one.
func Sub(a, b string) (string, api.Errno) {
	return together(a, b, func(n, m number) (string, api.Errno) {
		return n.plus(m.negated()).told()
	})
}

// Mul is two numbers multiplied.
func Mul(a, b string) (string, api.Errno) {
	return together(a, b, func(n, m number) (string, api.Errno) {
		return n.times(m).told()
	})
}

// Div is a number divided by another one.
func Div(a, b string) (string, api.Errno) {
	return together(a, b, func(n, m number) (string, api.Errno) {
		if m.isZero() {
			return "", api.ErrDom
		}
		quotient, _ := n.divided(m)
		return quotient.told()
	})
}

// Mod is what is left of a number divided by another one.
func Mod(a, b string) (string, api.Errno) {
	return together(a, b, func(n, m number) (string, api.Errno) {
		if m.isZero() {
			return "", api.ErrDom
		}
		_, left := n.divided(m)
		return left.told()
	})
}

// together is what is done with two texts, if both are numbers.
func together(a, b string, do func(n, m number) (string, api.Errno)) (string, api.Errno) {
	n, okA := read(a)
	m, okB := read(b)
	if !okA || !okB {
		return "", api.ErrArg
	}
	return do(n, m)
}
