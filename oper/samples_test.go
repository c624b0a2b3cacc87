package oper_test

import (
	"fmt"
	"math"
	"strings"
	"testing"

	"rendezvous/api"
	"rendezvous/big"
	"rendezvous/heap"
	"rendezvous/oper"
	"rendezvous/text"
)

const (
	most = api.MaxText
	safe = api.MaxSafe
)

// limit is 2^256 in decimal digits, the least size that no BigInt has.
const limit = "115792089237316195423570985008687907853269984665640564039457584007913129639936"

// greatest is limit - 1.
const greatest = "115792089237316195423570985008687907853269984665640564039457584007913129639935"

var (
	nan      = number(api.Num{Kind: api.NNaN})
	negZero  = number(api.Num{Kind: api.NNegZero})
	infinite = number(api.Num{Kind: api.NInf})
	below    = number(api.Num{Kind: api.NNegInf})

	undefined = heap.Value{}
	null      = heap.Value{Kind: 1}
	no        = heap.Value{Kind: 2}
	yes       = heap.Value{Kind: 2, Ref: 1}
)

func whole(n int) heap.Value { return number(api.Num{N: n}) }

func number(a api.Num) heap.Value { return heap.Value{Kind: 3, N: a} }

func bigInt(n int) heap.Value { return heap.Value{Kind: 4, B: big.Of(n)} }

func bigText(s string) heap.Value {
	b, errno := big.Parse(s)
	if errno != api.OK {
		panic(s)
	}
	return heap.Value{Kind: 4, B: b}
}

func bigLimbs(neg bool, mag ...uint32) heap.Value {
	return heap.Value{Kind: 4, B: api.Big{Neg: neg, Mag: mag}}
}

func str(s string) heap.Value { return units(text.Ascii(s)...) }

func units(u ...uint16) heap.Value { return heap.Value{Kind: 5, S: u} }

func object(ref int) heap.Value { return heap.Value{Kind: 6, Ref: ref} }

func truth(b bool) heap.Value {
	if b {
		return yes
	}
	return no
}

// validValues are of all kinds, all of them different ones, and made anew at each call.
func validValues() []heap.Value {
	list := []heap.Value{undefined, null, no, yes, object(0), object(1), object(math.MaxInt), nan, negZero, infinite, below}
	for _, n := range []int{0, 1, -1, 2, -2, 3, 7, 10, -10, 31, 32, 33, 94906265, 94906266, -94906266, 1<<31 - 1, 1 << 31, 1<<32 - 1, 1 << 32, -1 << 31, -1 << 32, safe - 1, safe, -safe} {
		list = append(list, whole(n))
	}
	for _, n := range []int{0, 1, -1, 2, 7, -7, 10, 1 << 31, -1 << 32, safe, -safe, safe + 1, math.MaxInt, math.MinInt} {
		list = append(list, bigInt(n))
	}
	list = append(list, bigLimbs(false, 0, 0, 0, 0, 1), bigLimbs(true, 1<<32-1, 1<<32-1, 1<<32-1, 1<<32-1), bigText(greatest), bigText("-"+greatest))
	for _, s := range []string{"", " ", "0", "-0", "1", "01", " 1\n", "-1", "2", "33", "10", "9", "9007199254740991", "9007199254740992", limit, "NaN", "Infinity", "-Infinity", "true", "undefined", "x", "a b", "B", "1.5", "0x1", "1n",
		strings.Repeat("0", most), strings.Repeat("1", most-1), strings.Repeat("x", most-3), strings.Repeat("x", most-9)} {
		list = append(list, str(s))
	}
	return append(list, units(0), units(0xD800), units(0xFFFF, '1'), units(0xE9, 'a'))
}

// oneBad is a value that is not valid in one thing alone, and the valid one that it resembles.
type oneBad struct{ bad, like heap.Value }

func invalidValues() []oneBad {
	list := []oneBad{
		{heap.Value{Kind: 2, Ref: 2}, yes}, {heap.Value{Kind: 2, Ref: -1}, yes},
		{whole(safe + 1), whole(safe)}, {whole(-safe - 1), whole(-safe)}, {whole(math.MinInt), whole(0)},
		{number(api.Num{Kind: api.NInf, N: 1}), infinite}, {number(api.Num{Kind: api.NNegZero, N: 1}), negZero}, {number(api.Num{Kind: 5}), whole(0)}, {number(api.Num{Kind: -1, N: 1}), whole(1)},
		{bigLimbs(true), bigInt(0)}, {bigLimbs(false, 0), bigInt(0)}, {bigLimbs(false, 1, 0), bigInt(1)}, {bigLimbs(true, 1, 2, 3, 4, 5, 6, 7, 8, 9), bigLimbs(true, 1, 2, 3, 4, 5, 6, 7, 8)},
		{units(make([]uint16, most+1)...), units(make([]uint16, most)...)}, {str(strings.Repeat("0", most) + "1"), str("1")},
		{object(-1), object(0)}, {object(math.MinInt), object(0)},
	}
	for _, v := range []heap.Value{undefined, null, no, yes, whole(0), whole(5), nan, infinite, bigInt(0), bigInt(5), str(""), str("5"), str("a"), object(0), object(5)} {
		for _, kind := range []int{7, -1, 1 << 32, math.MaxInt, math.MinInt} {
			other := v
			other.Kind = kind
			list = append(list, oneBad{other, v})
		}
		list = append(list, strangers(v)...)
	}
	return list
}

// strangers are what becomes of v by one field that its kind does not have.
func strangers(v heap.Value) []oneBad {
	list := []oneBad{}
	for _, change := range []struct {
		kind int
		do   func(*heap.Value)
	}{
		{3, func(v *heap.Value) { v.N.N = 1 }}, {3, func(v *heap.Value) { v.N.Kind = api.NNaN }}, {4, func(v *heap.Value) { v.B.Mag = []uint32{1} }}, {4, func(v *heap.Value) { v.B.Neg = true }},
		{5, func(v *heap.Value) { v.S = []uint16{'1'} }}, {2, func(v *heap.Value) { v.Ref = 1 }}, {2, func(v *heap.Value) { v.Ref = -1 }},
	} {
		if other := v; change.kind != v.Kind && (change.kind != 2 || v.Kind != 6) {
			change.do(&other)
			list = append(list, oneBad{other, v})
		}
	}
	return list
}

// unaryOps and binaryOps are the operators that the chapter names.
func unaryOps() []string { return []string{"!", "void", "+", "-", "~"} }

func binaryOps() []string {
	return strings.Fields("+ - * / % & | ^ << >> >>> < > <= >= == != === !==")
}

// shown tells all of a thing; a list that is nil is shown as an empty one.
func shown(x any) string { return fmt.Sprintf("%+v", x) }

// short tells what can be told of a value in a line.
func short(v heap.Value) string {
	switch {
	case len(v.S) > 20:
		return fmt.Sprintf("a text of %d units", len(v.S))
	case v.Kind == 5:
		s, ok := text.Plain(v.S)
		if ok {
			return fmt.Sprintf("%q", s)
		}
	case v.Kind == 4:
		return big.Text(v.B) + "n"
	case v.Kind == 3 && v.N.Kind == 0:
		return fmt.Sprint(v.N.N)
	}
	return shown(v)
}

// check holds an answer to a value, or to a signal that is not Ok and a zero value.
func check(t *testing.T, name string, got heap.Value, s int, want heap.Value, signal int) {
	t.Helper()
	if s != signal || !heap.Same(got, want) {
		t.Errorf("%s: %s, %d; want %s, %d", name, short(got), s, short(want), signal)
	}
}

func checkUnary(t *testing.T, op string, v, want heap.Value, signal int) {
	t.Helper()
	got, s := oper.Unary(op, v)
	check(t, op+" "+short(v), got, s, want, signal)
}

func checkBinary(t *testing.T, a heap.Value, op string, b, want heap.Value, signal int) {
	t.Helper()
	got, s := oper.Binary(op, a, b)
	check(t, short(a)+" "+op+" "+short(b), got, s, want, signal)
}

func checkStep(t *testing.T, v heap.Value, by int, want heap.Value, signal int) {
	t.Helper()
	got, s := oper.Step(v, by)
	check(t, fmt.Sprintf("Step of %s by %d", short(v), by), got, s, want, signal)
}

func TestSamples(t *testing.T) {
	for _, v := range validValues() {
		if !heap.May(v) {
			t.Errorf("%s is not valid", short(v))
		}
	}
	for _, one := range invalidValues() {
		if heap.May(one.bad) || !heap.May(one.like) {
			t.Errorf("%s is valid, or %s is not", short(one.bad), short(one.like))
		}
	}
}
