package lex

import (
	"strings"
)

// The bytes of which parts are. What is below 0 is told by the underscore in a part, by the hyphen in a number.
const (
	blank      = " "
	underscore = "_"
	hyphen     = "-"
	figures    = "0123456789"
	small      = "abcdefghijklmnopqrstuvwxyz"
	great      = "ABCDEFGHIJKLMNOPQRSTUVWXYZ"
	signs      = "+-*%!&|<>=~,#^$?@"
	advs       = "'/\\.`"
	marks      = "()[]{}:"
)

// isOf tells whether a byte is one of some.
func isOf(some string, c byte) bool {
	return strings.IndexByte(some, c) >= 0
}

// part is what a text begins with: its first byte, and those behind it, up to the first one that ends it.
func part(s string, ends func(c byte) bool) string {
	n := 1
	for n < len(s) && !ends(s[n]) {
		n++
	}
	return s[:n]
}
