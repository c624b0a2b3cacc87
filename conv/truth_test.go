package conv_test

import (
	"math"
	"slices"
	"testing"

	"rendezvous/api"
	"rendezvous/conv"
	"rendezvous/heap"
	"rendezvous/text"
)

func TestP10_1_Signals(t *testing.T) {
	if all := []int{conv.Ok, conv.Type, conv.Range, conv.Exit, conv.Reference, conv.Syntax}; !slices.Equal(all, []int{0, 1, 2, 3, 4, 5}) {
		t.Errorf("signals %v", all)
	}
}

func TestP10_1_Truth(t *testing.T) {
	if v := conv.Truth(true); !heap.Same(v, yes) {
		t.Errorf("Truth(true) is %v", shown(v))
	}
	if v := conv.Truth(false); !heap.Same(v, no) {
		t.Errorf("Truth(false) is %v", shown(v))
	}
}

// A number is kept as it is, also one that is not valid.
func TestP10_1_Num(t *testing.T) {
	wrong := []api.Num{{N: api.MaxSafe + 1}, {N: math.MinInt}, {Kind: api.NNaN, N: 3}, {Kind: api.NInf, N: -1}, {Kind: 5}, {Kind: -1, N: 7}, {Kind: math.MaxInt}}
	for _, a := range append(nums(), wrong...) {
		if v := conv.Num(a); !heap.Same(v, heap.Value{Kind: 3, N: a}) {
			t.Errorf("Num(%v) is %v", a, shown(v))
		}
	}
}

func TestP10_1_Str(t *testing.T) {
	counting := make([]uint16, 3*most)
	for i := range counting {
		counting[i] = uint16(i)
	}
	for _, size := range []int{0, 1, 2, 100, most - 1, most, most + 1, most + 2, 2 * most, 3 * most} {
		v := conv.Str(counting[:size])
		if want := units(counting[:min(size, most)]...); !heap.Same(v, want) || !heap.May(v) {
			t.Errorf("Str of %d units has %d, or others", size, len(v.S))
		}
	}
	if v := conv.Str(nil); !heap.Same(v, str("")) {
		t.Errorf("Str(nil) is %v", shown(v))
	}
	for _, u := range [][]uint16{text.Ascii("ab"), {0}, {0xD800, 0xFFFF}, {0xDC00}} {
		if v := conv.Str(u); !heap.Same(v, units(u...)) {
			t.Errorf("Str(%v) is %v", u, shown(v))
		}
	}
}

func TestP10_1_Bool(t *testing.T) {
	for _, v := range []heap.Value{undefined, null, no, number(nan), whole(0), number(negZero), bigInt(0), bigLimbs(false, []uint32{}...), str(""), units([]uint16{}...)} {
		if conv.Bool(v) {
			t.Errorf("Bool of %v", shown(v))
		}
	}
	for _, v := range []heap.Value{yes, whole(1), whole(-1), whole(api.MaxSafe), whole(-api.MaxSafe), whole(1 << 32), number(infinite), number(below), bigInt(1), bigInt(-1), bigLimbs(false, 0, 1), bigLimbs(true, 0, 0, 0, 0, 0, 0, 0, 1),
		str("0"), str(" "), str("false"), str("NaN"), units(0), units(0xD800), units(make([]uint16, most)...), object(0), object(1), object(math.MaxInt)} {
		if !conv.Bool(v) {
			t.Errorf("not Bool of %v", short(v))
		}
	}
}

func TestP10_1_BoolOfAll(t *testing.T) {
	counts := map[bool]int{}
	for _, v := range validValues() {
		counts[conv.Bool(v)]++
	}
	// Not true are undefined, null, the boolean 0, three numbers, a BigInt and a text.
	if all := len(validValues()); counts[false] != 8 || counts[true] != all-8 {
		t.Errorf("of %d values %d are true", all, counts[true])
	}
}

func TestP10_7_BoolOfTruth(t *testing.T) {
	for _, b := range []bool{true, false} {
		if conv.Bool(conv.Truth(b)) != b {
			t.Errorf("Bool of Truth(%v)", b)
		}
	}
}
