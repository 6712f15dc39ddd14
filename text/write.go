package text

import (
	"strings"

	"reredos/lex"
)

// What stands in a text beside the numbers.
const (
	between    = " "  // each two numbers in a row
	none       = "!0" // where there is no element
	alone      = ","  // ahead of the only element, which would be an array of no axis without it
	behindAxes = "#"
)

// row is many numbers in a row, each of which number tells.
func row(many int, number func(i int) string) string {
	parts := make([]string, many)
	for i := range parts {
		parts[i], _ = lex.Literal(number(i))
	}
	return strings.Join(parts, between)
}

// vector is the text of a vector of many elements, each of which number tells.
func vector(many int, number func(i int) string) string {
	switch many {
	case 0:
		return none
	case 1:
		return alone + row(1, number)
	}
	return row(many, number)
}
