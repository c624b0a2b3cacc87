package conv

import (
	"rendezvous/api"
	"rendezvous/big"
	"rendezvous/heap"
	"rendezvous/num"
)

// Strict reports whether both values are of one kind and equal.
func Strict(a, b heap.Value) bool {
	a, b = valid(a), valid(b)
	switch {
	case a.Kind != b.Kind:
		return false
	case a.Kind == heap.Number:
		return num.Equal(a.N, b.N)
	}
	// Valid values have no fields but those of their kind.
	return heap.Same(a, b)
}

// Loose reports whether both values are equal when their kinds are brought together.
func Loose(a, b heap.Value) (bool, int) {
	a, b = valid(a), valid(b)
	switch {
	case a.Kind == b.Kind:
		return Strict(a, b), Ok
	case isNothing(a) || isNothing(b):
		return isNothing(a) && isNothing(b), Ok
	}
	a, b = withoutBoolean(a), withoutBoolean(b)
	if a.Kind > b.Kind {
		a, b = b, a
	}
	// Of two numbers, or of two kinds, b now is the later one: a number, a BigInt,
	// a text or an object.
	switch b.Kind {
	case heap.Number:
		return Strict(a, b), Ok
	case heap.BigInt:
		return isWorth(a.N, b.B), Ok
	case heap.Text:
		if a.Kind == heap.Number {
			return reads(b.S, a.N)
		}
	}
	return false, Exit
}

func isNothing(v heap.Value) bool {
	return v.Kind == heap.Undefined || v.Kind == heap.Null
}

// withoutBoolean returns the number of a boolean, and all other values as they are.
func withoutBoolean(v heap.Value) heap.Value {
	if v.Kind == heap.Boolean {
		return Num(api.Num{N: v.Ref})
	}
	return v
}

// isWorth reports whether a number and a BigInt are the same number.
func isWorth(a api.Num, b api.Big) bool {
	switch a.Kind {
	case api.NWhole, api.NNegZero:
		// The N of minus zero is 0.
		return big.Same(big.Of(a.N), b)
	}
	return false
}

// reads reports whether the number of a text is this one.
func reads(u []uint16, a api.Num) (bool, int) {
	b, signal := numberOf(u)
	return signal == Ok && num.Equal(a, b), signal
}
