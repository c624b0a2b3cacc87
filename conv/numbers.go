package conv

import (
	"slices"
	"strings"

	"rendezvous/api"
	"rendezvous/big"
	"rendezvous/heap"
	"rendezvous/num"
	"rendezvous/text"
)

// Sets of characters of which the texts of BigInts are made.
const (
	blanks   = " \t\n\r"
	digits   = "0123456789"
	prefixed = digits + "abcdefABCDEFxXoO"
)

// Number returns v as a number.
func Number(v heap.Value) (api.Num, int) {
	v = valid(v)
	switch v.Kind {
	case heap.Undefined:
		return api.Num{Kind: api.NNaN}, Ok
	case heap.Null:
		return api.Num{}, Ok
	case heap.Boolean:
		return api.Num{N: v.Ref}, Ok
	case heap.Number:
		return v.N, Ok
	case heap.BigInt:
		return api.Num{}, Type
	case heap.Text:
		return numberOf(v.S)
	}
	return api.Num{}, Exit
}

// Numeric returns a BigInt itself, and Number of all other values.
func Numeric(v heap.Value) (heap.Value, int) {
	v = valid(v)
	if v.Kind == heap.BigInt {
		return heap.Value{Kind: heap.BigInt, B: cloned(v.B)}, Ok
	}
	a, signal := Number(v)
	if signal != Ok {
		return heap.Value{}, signal
	}
	return Num(a), Ok
}

// BigInt returns v as a BigInt.
func BigInt(v heap.Value) (api.Big, int) {
	v = valid(v)
	switch v.Kind {
	case heap.Boolean:
		return big.Of(v.Ref), Ok
	case heap.BigInt:
		return cloned(v.B), Ok
	case heap.Text:
		return bigOf(v.S)
	case heap.Object:
		return api.Big{}, Exit
	}
	return api.Big{}, Type
}

// Index returns v as an index.
func Index(v heap.Value) (int, int) {
	// The NaN that Number makes of undefined is the index 0.
	a, signal := Number(v)
	if signal != Ok {
		return 0, signal
	}
	n, ok := num.Index(a)
	if !ok {
		return 0, Range
	}
	return n, Ok
}

// numberOf returns the number of a text.
func numberOf(u []uint16) (api.Num, int) {
	a, ok := text.Number(u)
	if !ok {
		return api.Num{}, Exit
	}
	return a, Ok
}

// bigOf returns the BigInt of a text.
func bigOf(u []uint16) (api.Big, int) {
	s, ok := text.Plain(u)
	if !ok {
		// No form of a BigInt, supported or not, has a unit of 128 or more.
		return api.Big{}, Syntax
	}
	s = strings.Trim(s, blanks)
	size, minus := unsigned(s)
	switch {
	case s == "":
		return api.Big{}, Ok
	case size != "" && hasOnly(size, digits):
		b, signal := bigOfDigits(size)
		if minus {
			b = big.Neg(b)
		}
		return b, signal
	case strings.ContainsAny(s, digits) && hasOnly(s, prefixed):
		return api.Big{}, Exit
	}
	return api.Big{}, Syntax
}

// unsigned returns s without the one sign that may stand in front, and whether that is a minus.
func unsigned(s string) (size string, minus bool) {
	if size, minus = strings.CutPrefix(s, "-"); minus {
		return size, true
	}
	return strings.TrimPrefix(s, "+"), false
}

// hasOnly reports whether s has no characters but those of the set.
func hasOnly(s, set string) bool {
	return strings.Trim(s, set) == ""
}

// bigOfDigits returns the BigInt of decimal digits, which may begin with zeros.
func bigOfDigits(s string) (api.Big, int) {
	s = strings.TrimLeft(s, "0")
	if s == "" {
		return api.Big{}, Ok
	}
	b, errno := big.Parse(s)
	if errno != api.OK {
		return api.Big{}, Exit
	}
	return b, Ok
}

func cloned(b api.Big) api.Big {
	return api.Big{Neg: b.Neg, Mag: slices.Clone(b.Mag)}
}
