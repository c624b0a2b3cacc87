package conv_test

import (
	"fmt"
	"math"
	"strings"
	"testing"

	"rendezvous/api"
	"rendezvous/big"
	"rendezvous/heap"
	"rendezvous/text"
)

const most = api.MaxText

// limit is 2^256 in decimal digits, the least size that no BigInt has.
const limit = "115792089237316195423570985008687907853269984665640564039457584007913129639936"

// greatest is limit - 1.
const greatest = "115792089237316195423570985008687907853269984665640564039457584007913129639935"

var (
	nan      = api.Num{Kind: api.NNaN}
	negZero  = api.Num{Kind: api.NNegZero}
	infinite = api.Num{Kind: api.NInf}
	below    = api.Num{Kind: api.NNegInf}

	undefined = heap.Value{}
	null      = heap.Value{Kind: 1}
	no        = heap.Value{Kind: 2}
	yes       = heap.Value{Kind: 2, Ref: 1}
)

func whole(n int) heap.Value { return number(api.Num{N: n}) }

func number(a api.Num) heap.Value { return heap.Value{Kind: 3, N: a} }

func bigInt(n int) heap.Value { return heap.Value{Kind: 4, B: big.Of(n)} }

func bigLimbs(neg bool, mag ...uint32) heap.Value {
	return heap.Value{Kind: 4, B: api.Big{Neg: neg, Mag: mag}}
}

func str(s string) heap.Value { return units(text.Ascii(s)...) }

func units(u ...uint16) heap.Value { return heap.Value{Kind: 5, S: u} }

func object(ref int) heap.Value { return heap.Value{Kind: 6, Ref: ref} }

// nums are numbers of all kinds, all of them different ones.
func nums() []api.Num {
	list := []api.Num{negZero, nan, infinite, below}
	for _, n := range []int{0, 1, -1, 2, 7, 10, -10, 1 << 31, 1 << 32, -1 << 32, 1 << 52, api.MaxSafe - 1, api.MaxSafe, -api.MaxSafe} {
		list = append(list, api.Num{N: n})
	}
	return list
}

// validValues are of all kinds, all of them different ones, and made anew at each call.
func validValues() []heap.Value {
	list := []heap.Value{undefined, null, no, yes, object(0), object(1), object(2), object(api.MaxHeap), object(math.MaxInt)}
	for _, a := range nums() {
		list = append(list, number(a))
	}
	for _, n := range []int{0, 1, -1, 2, 7, 10, 1 << 32, -1 << 32, api.MaxSafe, -api.MaxSafe, api.MaxSafe + 1, math.MaxInt, math.MinInt} {
		list = append(list, bigInt(n))
	}
	list = append(list, bigLimbs(false, 0, 0, 0, 0, 0, 0, 0, 1), bigLimbs(true, 1, 2, 3, 4, 5, 6, 7, 1<<32-1))
	for _, s := range []string{"", " ", "0", "-0", "1", "01", "+1", " 1\n", "-1", "2", "7", "10", "4294967296", "9007199254740991", "9007199254740992", "-9007199254740991", limit,
		"NaN", "Infinity", "-Infinity", "true", "false", "null", "undefined", "x", "X", "a b", "1.5", "0x1", "1n", "-", "+", strings.Repeat("0", most), strings.Repeat("1", most)} {
		list = append(list, str(s))
	}
	return append(list, units(0), units(0xD800), units(0xFFFF, '1'), units(0xA0), units(0xE9, 'a'))
}

// oneBad is a value that is not valid in one thing alone, and the valid one that it resembles.
type oneBad struct{ bad, like heap.Value }

func invalidValues() []oneBad {
	list := []oneBad{
		{heap.Value{Kind: 2, Ref: 2}, yes}, {heap.Value{Kind: 2, Ref: -1}, yes}, {heap.Value{Kind: 2, Ref: 1 << 32}, no},
		{number(api.Num{N: api.MaxSafe + 1}), whole(api.MaxSafe)}, {number(api.Num{N: -api.MaxSafe - 1}), whole(-api.MaxSafe)}, {number(api.Num{N: math.MinInt}), whole(0)},
		{number(api.Num{Kind: api.NInf, N: 1}), number(infinite)}, {number(api.Num{Kind: api.NNegZero, N: 1}), number(negZero)}, {number(api.Num{Kind: 5}), whole(0)}, {number(api.Num{Kind: -1, N: 1}), whole(1)},
		{bigLimbs(true), bigInt(0)}, {bigLimbs(false, 0), bigInt(0)}, {bigLimbs(false, 1, 0), bigInt(1)}, {bigLimbs(true, 1, 2, 3, 4, 5, 6, 7, 8, 9), bigLimbs(true, 1, 2, 3, 4, 5, 6, 7, 8)},
		{units(make([]uint16, most+1)...), units(make([]uint16, most)...)}, {str(strings.Repeat("0", most) + "1"), str("1")}, {str(strings.Repeat(" ", most+1)), str("")},
		{object(-1), object(0)}, {object(-2), object(0)}, {object(math.MinInt), object(0)},
	}
	for _, v := range validValues() {
		for _, kind := range []int{7, 8, 10, -1, 1 << 32, math.MaxInt, math.MinInt} {
			other := v
			other.Kind = kind
			list = append(list, oneBad{other, v})
		}
		list = append(list, strangers(v)...)
	}
	return list
}

// strangers are what becomes of v by one field that its kind does not have.
func strangers(v heap.Value) []oneBad {
	list := []oneBad{}
	for _, change := range []struct {
		kind int
		do   func(*heap.Value)
	}{
		{3, func(v *heap.Value) { v.N.N = 1 }}, {3, func(v *heap.Value) { v.N.Kind = api.NNaN }}, {4, func(v *heap.Value) { v.B.Mag = []uint32{1} }}, {4, func(v *heap.Value) { v.B.Neg = true }},
		{5, func(v *heap.Value) { v.S = []uint16{'1'} }}, {2, func(v *heap.Value) { v.Ref = 1 }}, {2, func(v *heap.Value) { v.Ref = -1 }},
	} {
		if other := v; change.kind != v.Kind && (change.kind != 2 || v.Kind != 6) {
			change.do(&other)
			list = append(list, oneBad{other, v})
		}
	}
	return list
}

// shown tells all of a thing; a list that is nil is shown as an empty one.
func shown(x any) string { return fmt.Sprintf("%+v", x) }

// short tells what can be told of a value in a line.
func short(v heap.Value) string {
	if len(v.S) > 20 {
		return fmt.Sprintf("a text of %d units", len(v.S))
	}
	return shown(v)
}

func TestSamples(t *testing.T) {
	for _, v := range validValues() {
		if !heap.May(v) {
			t.Errorf("%s is not valid", short(v))
		}
	}
	for _, one := range invalidValues() {
		if heap.May(one.bad) || !heap.May(one.like) {
			t.Errorf("%s is valid, or %s is not", short(one.bad), short(one.like))
		}
	}
}
