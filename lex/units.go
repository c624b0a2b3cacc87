package lex

import (
	"rendezvous/api"
	"rendezvous/text"
)

// These end lines in the whole language, but not in the part that is taken
// here; so where they could make a difference they are refused.
const (
	lineSeparator      = 0x2028
	paragraphSeparator = 0x2029
)

func isLetter(unit uint16) bool {
	return 'a' <= unit && unit <= 'z' || 'A' <= unit && unit <= 'Z' || unit == '_' || unit == '$'
}

func isDigit(unit uint16) bool {
	return '0' <= unit && unit <= '9'
}

// isPart reports whether a name goes on with the unit.
func isPart(unit uint16) bool {
	return isLetter(unit) || isDigit(unit)
}

func isBlank(unit uint16) bool {
	switch unit {
	case '\t', '\v', '\f', ' ':
		return true
	}
	return false
}

func isLineEnd(unit uint16) bool {
	return unit == '\n' || unit == '\r'
}

func isSeparator(unit uint16) bool {
	return unit == lineSeparator || unit == paragraphSeparator
}

func isQuote(unit uint16) bool {
	return unit == '\'' || unit == '"'
}

// hexadecimal returns the value of a hexadecimal digit, and whether it is one.
func hexadecimal(unit uint16) (uint16, bool) {
	switch {
	case isDigit(unit):
		return unit - '0', true
	case 'a' <= unit && unit <= 'f':
		return unit - 'a' + 10, true
	case 'A' <= unit && unit <= 'F':
		return unit - 'A' + 10, true
	}
	return 0, false
}

// span returns how many units from the first one on are all as asked.
func span(u []uint16, is func(unit uint16) bool) int {
	for i, unit := range u {
		if !is(unit) {
			return i
		}
	}
	return len(u)
}

// unitAt returns a unit of u; beyond the end it returns 0, which no token but a
// string goes on with.
func unitAt(u []uint16, i int) uint16 {
	if i >= len(u) {
		return 0
	}
	return u[i]
}

func begins(u []uint16, s string) bool {
	return len(u) >= len(s) && text.Same(u[:len(s)], text.Ascii(s))
}

// skip returns how many units ahead of a token a blank, a line end or a comment
// takes, and whether a line ends there; it takes none where a token begins.
func skip(u []uint16) (size int, ends bool, errno api.Errno) {
	switch {
	case isBlank(u[0]):
		return 1, false, api.OK
	case isLineEnd(u[0]):
		return 1, true, api.OK
	case begins(u, "//"):
		// The line end behind it is skipped on its own.
		return comment(u[:span(u, isInLine)])
	case begins(u, "/*"):
		return comment(u[:block(u)])
	}
	return 0, false, api.OK
}

func isInLine(unit uint16) bool {
	return !isLineEnd(unit)
}

// block returns the size of a comment up to its second mark; 0 if that is missing.
func block(u []uint16) int {
	for i := len("/*"); i < len(u); i++ {
		if begins(u[i:], "*/") {
			return i + len("*/")
		}
	}
	return 0
}

// comment returns what skip does for a whole comment; one that is not whole is empty.
func comment(u []uint16) (size int, ends bool, errno api.Errno) {
	if len(u) == 0 {
		return 0, false, api.ErrSyntax
	}
	for _, unit := range u {
		if isSeparator(unit) {
			return 0, false, api.ErrSubset
		}
		ends = ends || isLineEnd(unit)
	}
	return len(u), ends, api.OK
}
