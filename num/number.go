package num

import (
	"cmp"
	"strings"

	"reredos/api"
)

const (
	hyphen = "-"
	zero   = "0"
)

// sign is -1, 0 or 1, as a number is below, at or above 0.
type sign int

func (s sign) isZero() bool {
	return s == 0
}

func (s sign) isBelow() bool {
	return s < 0
}

// number is a whole number. Its sign is 0 just if its size has no part, so that no number has two forms.
type number struct {
	sign
	size
}

// made is the number of a size on one side of 0; a size of 0 has no side.
func made(s sign, a size) number {
	if len(a) == 0 {
		return number{}
	}
	return number{s, a}
}

// read is the number that a text is.
func read(s string) (number, bool) {
	if !May(s) {
		return number{}, false
	}
	if figures, below := strings.CutPrefix(s, hyphen); below {
		return made(-1, readSize(figures)), true
	}
	return made(1, readSize(s)), true
}

func (n number) text() string {
	if n.isBelow() {
		return hyphen + n.figures()
	}
	return n.figures()
}

// told is a number as an answer, which has a limit.
func (n number) told() (string, api.Errno) {
	if len(n.figures()) > api.MaxDigits {
		return "", api.ErrBig
	}
	return n.text(), api.OK
}

func (n number) negated() number {
	return number{-n.sign, n.size}
}

// against tells which of two numbers is greater.
func (n number) against(m number) int {
	if c := cmp.Compare(n.sign, m.sign); c != 0 {
		return c
	}
	return int(n.sign) * n.compared(m.size)
}

func (n number) plus(m number) number {
	if n.sign == m.sign {
		return made(n.sign, n.and(m.size))
	}
	if n.compared(m.size) < 0 {
		n, m = m, n // less asks for the greater size first
	}
	return made(n.sign, n.less(m.size))
}

func (n number) times(m number) number {
	return made(n.sign*m.sign, n.multiplied(m.size))
}

// divided is n divided by m, which isn't 0, rounded down, and what is left of it.
func (n number) divided(m number) (quotient, left number) {
	q, r := n.cut(m.size)
	quotient, left = made(n.sign*m.sign, q), made(n.sign, r)
	if !left.isZero() && left.sign != m.sign { // sizes are rounded towards 0, not down
		quotient, left = quotient.plus(number{-1, size{1}}), left.plus(m)
	}
	return quotient, left
}
