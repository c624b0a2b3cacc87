package oper

import (
	"rendezvous/api"
	"rendezvous/big"
	"rendezvous/conv"
	"rendezvous/heap"
	"rendezvous/num"
	"rendezvous/text"
)

// loose returns conv.Loose, or its negation.
func loose(op string, a, b heap.Value) (heap.Value, int) {
	is, signal := conv.Loose(a, b)
	if signal != conv.Ok {
		return heap.Value{}, signal
	}
	return conv.Truth(is == (op == "==")), conv.Ok
}

// order returns whether a and b stand in the order that op asks for.
func order(op string, a, b heap.Value) (heap.Value, int) {
	a, b, signal := comparands(a, b)
	switch {
	case signal != conv.Ok:
		return heap.Value{}, signal
	case isNaN(a) || isNaN(b):
		return conv.Truth(false), conv.Ok
	}
	is := false
	switch op {
	case "<":
		is = less(a, b)
	case ">":
		is = less(b, a)
	case "<=":
		is = !less(b, a)
	case ">=":
		is = !less(a, b)
	}
	return conv.Truth(is), conv.Ok
}

// comparands returns two texts as they are, and all else as numbers and BigInts.
func comparands(a, b heap.Value) (x, y heap.Value, signal int) {
	switch {
	case both(heap.Text, a, b):
		return a, b, conv.Ok
	case either(heap.BigInt, a, b) && either(heap.Text, a, b):
		return heap.Value{}, heap.Value{}, conv.Exit
	}
	// An object is Exit there, because it is no number.
	return numerics(a, b)
}

func isNaN(v heap.Value) bool {
	return v.N.Kind == api.NNaN
}

// less reports whether a comes before b: two texts, or numbers other than NaN and BigInts.
func less(a, b heap.Value) bool {
	switch {
	case both(heap.Text, a, b):
		return text.Less(a.S, b.S)
	case both(heap.Number, a, b):
		return num.Less(a.N, b.N)
	case both(heap.BigInt, a, b):
		return big.Cmp(a.B, b.B) < 0
	case a.Kind == heap.BigInt:
		return compare(a.B, b.N) < 0
	}
	return compare(b.B, a.N) > 0
}

// compare returns -1, 0 or 1 if a is less than, equal to, or greater than b, which is not NaN.
func compare(a api.Big, b api.Num) int {
	switch b.Kind {
	case api.NInf:
		return -1
	case api.NNegInf:
		return 1
	}
	// The N of minus zero is 0.
	return big.Cmp(a, big.Of(b.N))
}
