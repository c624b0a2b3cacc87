package oper_test

import (
	"math"
	"slices"
	"testing"

	"rendezvous/conv"
	"rendezvous/heap"
	"rendezvous/oper"
)

func TestP11_3_Step(t *testing.T) {
	for _, c := range []struct{ v, up, down heap.Value }{
		{whole(5), whole(6), whole(4)}, {whole(-1), whole(0), whole(-2)}, {whole(1), whole(2), whole(0)}, {negZero, whole(1), whole(-1)}, {nan, nan, nan}, {infinite, infinite, infinite}, {below, below, below}, {whole(safe - 1), whole(safe), whole(safe - 2)}, {whole(1 << 32), whole(1<<32 + 1), whole(1<<32 - 1)},
		{undefined, nan, nan}, {null, whole(1), whole(-1)}, {no, whole(1), whole(-1)}, {yes, whole(2), whole(0)}, {str("7"), whole(8), whole(6)}, {str(""), whole(1), whole(-1)}, {str("-0"), whole(1), whole(-1)}, {str("x"), nan, nan}, {str("Infinity"), infinite, infinite},
		{bigInt(5), bigInt(6), bigInt(4)}, {bigInt(0), bigInt(1), bigInt(-1)}, {bigInt(-1), bigInt(0), bigInt(-2)}, {bigInt(1), bigInt(2), bigInt(0)}, {bigInt(safe), bigInt(safe + 1), bigInt(safe - 1)}, {bigInt(1<<32 - 1), bigInt(1 << 32), bigInt(1<<32 - 2)},
	} {
		checkStep(t, c.v, 1, c.up, conv.Ok)
		checkStep(t, c.v, -1, c.down, conv.Ok)
	}
}

func TestP11_3_StepStops(t *testing.T) {
	for _, v := range []heap.Value{object(0), object(7), str("1.5"), str("0x1"), str("9007199254740992")} {
		for _, by := range []int{1, -1, 0, 2} {
			checkStep(t, v, by, heap.Value{}, conv.Exit)
		}
	}
	checkStep(t, whole(safe), 1, heap.Value{}, conv.Exit)
	checkStep(t, whole(-safe), -1, heap.Value{}, conv.Exit)
	checkStep(t, whole(-safe), 1, whole(-safe+1), conv.Ok)
	checkStep(t, bigText(greatest), 1, heap.Value{}, conv.Exit)
	checkStep(t, bigText("-"+greatest), -1, heap.Value{}, conv.Exit)
	checkStep(t, bigText(greatest), -1, bigText(greatest[:len(greatest)-1]+"4"), conv.Ok)
	checkStep(t, bigText("-"+greatest), 1, bigText("-"+greatest[:len(greatest)-1]+"4"), conv.Ok)
}

func TestP11_3_StepBy(t *testing.T) {
	for _, by := range []int{0, 2, -2, 3, 1 << 32, 1<<32 + 1, -1 << 32, safe, math.MaxInt, math.MinInt} {
		for _, v := range validValues() {
			checkStep(t, v, by, heap.Value{}, conv.Exit)
		}
	}
}

func TestP11_3_StepOfAll(t *testing.T) {
	for _, v := range validValues() {
		one := whole(1)
		if v.Kind == 4 {
			one = bigInt(1)
		}
		// A text would be joined with the number.
		x, signal := conv.Numeric(v)
		if signal != conv.Ok {
			continue
		}
		up, first := oper.Binary("+", x, one)
		down, second := oper.Binary("-", x, one)
		checkStep(t, v, 1, up, first)
		checkStep(t, v, -1, down, second)
	}
}

func TestP11_3_Ops(t *testing.T) {
	want := []string{"+", "-", "*", "/", "%", "&", "|", "^", "<<", ">>", ">>>", "<", ">", "<=", ">=", "==", "!=", "===", "!=="}
	if got := oper.Ops(); !slices.Equal(got, want) {
		t.Errorf("Ops: %q", got)
	}
	// Each of them is known.
	for _, op := range oper.Ops() {
		if v, signal := oper.Binary(op, whole(1), whole(1)); signal != conv.Ok || v.Kind < 2 {
			t.Errorf("1 %s 1: %s, %d", op, short(v), signal)
		}
	}
}

func TestP11_4_Ops(t *testing.T) {
	first, second := oper.Ops(), oper.Ops()
	want := slices.Clone(first)
	fill(first, "?")
	if !slices.Equal(second, want) || !slices.Equal(oper.Ops(), want) {
		t.Error("the lists of Ops share memory")
	}
}
