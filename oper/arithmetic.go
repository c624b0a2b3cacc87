package oper

import (
	"slices"

	"rendezvous/api"
	"rendezvous/big"
	"rendezvous/conv"
	"rendezvous/heap"
	"rendezvous/num"
)

// plus joins texts, and adds everything else.
func plus(a, b heap.Value) (heap.Value, int) {
	if either(heap.Text, a, b) {
		return joined(a, b)
	}
	// An object is Exit there too, because it is no number.
	return arithmetic("+", a, b)
}

// joined returns the texts of a and b, one after the other.
func joined(a, b heap.Value) (heap.Value, int) {
	first, signal := conv.Text(a)
	if signal != conv.Ok {
		return heap.Value{}, signal
	}
	second, signal := conv.Text(b)
	switch {
	case signal != conv.Ok:
		return heap.Value{}, signal
	case len(first)+len(second) > api.MaxText:
		return heap.Value{}, conv.Exit
	}
	return conv.Str(slices.Concat(first, second)), conv.Ok
}

// arithmetic returns what op makes of two numbers, or of two BigInts.
func arithmetic(op string, a, b heap.Value) (heap.Value, int) {
	a, b, signal := operands(a, b)
	switch {
	case signal != conv.Ok:
		return heap.Value{}, signal
	case a.Kind == heap.BigInt:
		return ofBigs(op, a.B, b.B)
	}
	return ofNums(op, a.N, b.N)
}

// bitwise returns what op makes of the words of two numbers.
func bitwise(op string, a, b heap.Value) (heap.Value, int) {
	a, b, signal := operands(a, b)
	switch {
	case signal != conv.Ok:
		return heap.Value{}, signal
	case a.Kind == heap.BigInt && op == ">>>":
		return heap.Value{}, conv.Type
	case a.Kind == heap.BigInt:
		return heap.Value{}, conv.Exit
	}
	return conv.Num(num.Bit(bitOf(op), a.N, b.N)), conv.Ok
}

// operands returns both values as numbers, or both as BigInts.
func operands(a, b heap.Value) (x, y heap.Value, signal int) {
	x, y, signal = numerics(a, b)
	if signal == conv.Ok && x.Kind != y.Kind {
		return heap.Value{}, heap.Value{}, conv.Type
	}
	return x, y, signal
}

// numerics returns each of both values as a number or a BigInt.
func numerics(a, b heap.Value) (x, y heap.Value, signal int) {
	x, signal = conv.Numeric(a)
	if signal != conv.Ok {
		return heap.Value{}, heap.Value{}, signal
	}
	y, signal = conv.Numeric(b)
	if signal != conv.Ok {
		return heap.Value{}, heap.Value{}, signal
	}
	return x, y, conv.Ok
}

// bitOf returns the number that num.Bit gives to the operator.
func bitOf(op string) int {
	switch op {
	case "&":
		return 1
	case "|":
		return 2
	case "^":
		return 3
	case "<<":
		return 4
	case ">>":
		return 5
	}
	return 6
}

func ofNums(op string, a, b api.Num) (heap.Value, int) {
	switch op {
	case "+":
		return inSet(num.Add(a, b))
	case "-":
		return inSet(num.Sub(a, b))
	case "*":
		return inSet(num.Mul(a, b))
	case "/":
		return inSet(num.Div(a, b))
	}
	return conv.Num(num.Rem(a, b)), conv.Ok
}

func ofBigs(op string, a, b api.Big) (heap.Value, int) {
	switch op {
	case "+":
		return shortEnough(big.Add(a, b))
	case "-":
		return shortEnough(big.Sub(a, b))
	case "*":
		return shortEnough(big.Mul(a, b))
	case "/":
		return divided(big.Div(a, b))
	}
	return divided(big.Rem(a, b))
}

// inSet returns the result of a function of num, or Exit if it leaves the set.
func inSet(a api.Num, ok bool) (heap.Value, int) {
	if !ok {
		return heap.Value{}, conv.Exit
	}
	return conv.Num(a), conv.Ok
}

// shortEnough returns the result of a function of big, or Exit if it is too long.
func shortEnough(b api.Big, ok bool) (heap.Value, int) {
	if !ok {
		return heap.Value{}, conv.Exit
	}
	return ofBig(b), conv.Ok
}

// divided returns the result of a division, or Range if that was by zero.
func divided(b api.Big, errno api.Errno) (heap.Value, int) {
	if errno != api.OK {
		return heap.Value{}, conv.Range
	}
	return ofBig(b), conv.Ok
}
