package heap

import (
	"slices"

	"rendezvous/api"
	"rendezvous/big"
	"rendezvous/num"
	"rendezvous/text"
)

// Kinds of values.
const (
	Undefined = 0
	Null      = 1
	Boolean   = 2
	Number    = 3
	BigInt    = 4
	Text      = 5
	Object    = 6
)

// Value is a value of the language: a boolean (Ref 1 or 0), a number (N), a
// BigInt (B), a text (S), an object (Ref, the number of its cell), or one that
// its Kind alone tells.
type Value struct {
	Kind int
	N    api.Num
	B    api.Big
	S    []uint16
	Ref  int
}

// May reports whether v is valid.
func May(v Value) bool {
	// What v would be if all fields that its kind does not have were zero.
	bare := Value{Kind: v.Kind}
	fits := false
	switch v.Kind {
	case Undefined, Null:
		fits = true
	case Boolean:
		bare.Ref, fits = v.Ref, v.Ref == 0 || v.Ref == 1
	case Number:
		bare.N, fits = v.N, num.May(v.N)
	case BigInt:
		bare.B, fits = v.B, big.May(v.B)
	case Text:
		bare.S, fits = v.S, len(v.S) <= api.MaxText
	case Object:
		bare.Ref, fits = v.Ref, v.Ref >= 0
	}
	return fits && Same(v, bare)
}

// Same reports whether two values, valid or not, are equal field by field.
func Same(a, b Value) bool {
	return a.Kind == b.Kind && a.N == b.N && a.B.Neg == b.B.Neg && slices.Equal(a.B.Mag, b.B.Mag) &&
		text.Same(a.S, b.S) && a.Ref == b.Ref
}

func cloned(v Value) Value {
	v.B.Mag = slices.Clone(v.B.Mag)
	v.S = slices.Clone(v.S)
	return v
}
