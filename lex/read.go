package lex

import (
	"unicode/utf8"

	"rendezvous/api"
	"rendezvous/big"
	"rendezvous/num"
	"rendezvous/text"
)

// longest is the most units that a punctuator has.
const longest = len(">>>=")

// read returns the token at a unit that is not skipped, without its place, and its size.
func read(u []uint16, at int) (api.Token, int, api.Errno) {
	rest := u[at:]
	first := rest[0]
	switch {
	case isLetter(first):
		return word(rest)
	case isDigit(first):
		return numeral(rest)
	case isQuote(first):
		return quoted(rest)
	case first == '.' && isDigit(unitAt(rest, 1)):
		return fault(api.ErrSubset)
	}
	if s := punctuator(rest); s != "" {
		return sign(s)
	}
	if first >= utf8.RuneSelf || first == '`' || first == '\\' || at == 0 && begins(rest, "#!") {
		return fault(api.ErrSubset)
	}
	return fault(api.ErrSyntax)
}

func fault(errno api.Errno) (api.Token, int, api.Errno) {
	return api.Token{}, 0, errno
}

// word reads a name or a word from its letter on.
func word(u []uint16) (api.Token, int, api.Errno) {
	size := span(u, isPart)
	if unitAt(u, size) == '\\' {
		return fault(api.ErrSubset)
	}
	s, _ := text.Plain(u[:size])
	kind := api.TName
	if Word(s) != 0 {
		kind = api.TWord
	}
	return api.Token{Kind: kind, Text: s}, size, api.OK
}

// numeral reads a number or a BigInt from its digit on.
func numeral(u []uint16) (api.Token, int, api.Errno) {
	size := span(u, isDigit)
	digits, _ := text.Plain(u[:size])
	next := unitAt(u, size)
	switch {
	case size > 1 && digits[0] == '0':
		return fault(api.ErrSyntax)
	case next == 'n':
		return bigint(digits, unitAt(u, size+1))
	case isFraction(next), digits == "0" && isRadix(next):
		return fault(api.ErrSubset)
	case isLetter(next):
		return fault(api.ErrSyntax)
	}
	n, ok := num.Parse(digits)
	if !ok {
		return fault(api.ErrSubset)
	}
	return api.Token{Kind: api.TNumber, N: n}, size, api.OK
}

// bigint returns the BigInt of digits and an n, of what stands behind that.
func bigint(digits string, next uint16) (api.Token, int, api.Errno) {
	b, errno := big.Parse(digits)
	switch {
	case errno != api.OK:
		return fault(api.ErrSubset)
	case isPart(next):
		return fault(api.ErrSyntax)
	}
	return api.Token{Kind: api.TBig, B: b}, len(digits) + len("n"), api.OK
}

// isFraction reports whether digits go on with the unit to a number that is
// written in another way than by them alone.
func isFraction(unit uint16) bool {
	switch unit {
	case '.', 'e', 'E', '_':
		return true
	}
	return false
}

// isRadix reports whether the unit makes a 0 ahead of it the mark of a radix.
func isRadix(unit uint16) bool {
	switch unit {
	case 'x', 'X', 'o', 'O', 'b', 'B':
		return true
	}
	return false
}

// quoted reads a string from its quote on.
func quoted(u []uint16) (api.Token, int, api.Errno) {
	str := []uint16{}
	at := 1
units:
	for at < len(u) {
		switch {
		case u[at] == u[0]:
			return api.Token{Kind: api.TString, Str: str}, at + 1, api.OK
		case isLineEnd(u[at]):
			return fault(api.ErrSyntax)
		case u[at] != '\\':
			str = append(str, u[at])
			at++
			continue units
		}
		unit, size, errno := escape(u[at+1:])
		if errno != api.OK {
			return fault(errno)
		}
		str = append(str, unit)
		at += len(`\`) + size
	}
	return fault(api.ErrSyntax)
}

// escape returns the unit that an escape stands for, from behind its backslash
// on, and how many units there belong to it.
func escape(u []uint16) (uint16, int, api.Errno) {
	switch first := unitAt(u, 0); {
	case len(u) == 0:
		return 0, 0, api.ErrSyntax
	case isLineEnd(first), isSeparator(first), begins(u, "u{"):
		return 0, 0, api.ErrSubset
	case first == 'x':
		return code(u, 2)
	case first == 'u':
		return code(u, 4)
	case first == '0' && !isDigit(unitAt(u, 1)):
		return 0, 1, api.OK
	case isDigit(first):
		return 0, 0, api.ErrSyntax
	default:
		return control(first), 1, api.OK
	}
}

// code returns the unit of so many hexadecimal digits behind the first unit.
func code(u []uint16, digits int) (uint16, int, api.Errno) {
	unit := uint16(0)
	for i := range digits {
		value, ok := hexadecimal(unitAt(u, 1+i))
		if !ok {
			return 0, 0, api.ErrSyntax
		}
		unit = unit<<4 | value
	}
	return unit, 1 + digits, api.OK
}

// control returns the control unit that a letter stands for; all others stand for themselves.
func control(unit uint16) uint16 {
	switch unit {
	case 'n':
		return '\n'
	case 't':
		return '\t'
	case 'r':
		return '\r'
	case 'b':
		return '\b'
	case 'v':
		return '\v'
	case 'f':
		return '\f'
	}
	return unit
}

// punctuator returns the longest one that u begins with, supported or not; none
// if there is none.
func punctuator(u []uint16) string {
	for size := min(longest, len(u)); size > 0; size-- {
		s, _ := text.Plain(u[:size])
		if Sign(s) == 0 {
			continue
		}
		if s == "?." && isDigit(unitAt(u, size)) {
			// Here the dot belongs to a number: a ? and what is chosen.
			return "?"
		}
		return s
	}
	return ""
}

func sign(s string) (api.Token, int, api.Errno) {
	if Sign(s) == 2 {
		return fault(api.ErrSubset)
	}
	return api.Token{Kind: api.TSign, Text: s}, len(s), api.OK
}
