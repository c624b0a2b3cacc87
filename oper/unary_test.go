package oper_test

import (
	"math"
	"strings"
	"testing"

	"rendezvous/conv"
	"rendezvous/heap"
	"rendezvous/oper"
)

// unaryStop is a value of which an operator answers a signal.
type unaryStop struct {
	v      heap.Value
	signal int
}

func TestP11_1_Not(t *testing.T) {
	for _, v := range []heap.Value{undefined, null, no, whole(0), negZero, nan, bigInt(0), str("")} {
		checkUnary(t, "!", v, yes, conv.Ok)
	}
	for _, v := range []heap.Value{yes, whole(1), whole(-safe), infinite, below, bigInt(-1), str(" "), str("0"), str("1.5"), str("false"), units(0), object(0), object(math.MaxInt)} {
		checkUnary(t, "!", v, no, conv.Ok)
	}
	for _, v := range validValues() {
		checkUnary(t, "!", v, truth(!conv.Bool(v)), conv.Ok)
	}
}

func TestP11_1_Void(t *testing.T) {
	for _, v := range validValues() {
		checkUnary(t, "void", v, undefined, conv.Ok)
	}
}

func TestP11_1_Plus(t *testing.T) {
	for _, c := range []struct{ v, want heap.Value }{
		{undefined, nan}, {null, whole(0)}, {no, whole(0)}, {yes, whole(1)}, {whole(-5), whole(-5)}, {negZero, negZero}, {nan, nan}, {below, below},
		{str(""), whole(0)}, {str(" 7 "), whole(7)}, {str("-0"), negZero}, {str("x"), nan}, {str("-Infinity"), below}, {units(0xA0, '1'), nan},
	} {
		checkUnary(t, "+", c.v, c.want, conv.Ok)
	}
	for _, c := range []unaryStop{{bigInt(0), conv.Type}, {bigInt(5), conv.Type}, {bigText(greatest), conv.Type}, {object(0), conv.Exit}, {str("1.5"), conv.Exit}, {str("0x1"), conv.Exit}, {str("9007199254740992"), conv.Exit}} {
		checkUnary(t, "+", c.v, heap.Value{}, c.signal)
	}
}

func TestP11_1_Minus(t *testing.T) {
	for _, c := range []struct{ v, want heap.Value }{
		{undefined, nan}, {null, negZero}, {no, negZero}, {yes, whole(-1)}, {whole(0), negZero}, {negZero, whole(0)}, {whole(5), whole(-5)}, {whole(-safe), whole(safe)}, {nan, nan}, {infinite, below}, {below, infinite},
		{bigInt(5), bigInt(-5)}, {bigInt(-5), bigInt(5)}, {bigInt(0), bigInt(0)}, {bigText(greatest), bigText("-" + greatest)}, {bigText("-" + greatest), bigText(greatest)},
		{str(""), negZero}, {str("7"), whole(-7)}, {str("-0"), whole(0)}, {str("x"), nan}, {str("Infinity"), below},
	} {
		checkUnary(t, "-", c.v, c.want, conv.Ok)
	}
	for _, v := range []heap.Value{object(0), object(7), str("1.5"), str("1e3"), str("9007199254740992")} {
		checkUnary(t, "-", v, heap.Value{}, conv.Exit)
	}
}

func TestP11_1_Invert(t *testing.T) {
	for _, c := range []struct {
		v    heap.Value
		want int
	}{
		{undefined, -1}, {null, -1}, {no, -1}, {yes, -2}, {whole(0), -1}, {whole(5), -6}, {whole(-1), 0}, {whole(1<<31 - 1), -1 << 31}, {whole(1 << 31), 1<<31 - 1}, {whole(-1 << 31), 1<<31 - 1}, {whole(1<<32 - 1), 0}, {whole(1 << 32), -1}, {whole(safe), 0}, {whole(-safe), -2},
		{negZero, -1}, {nan, -1}, {infinite, -1}, {below, -1}, {str(""), -1}, {str("5"), -6}, {str("x"), -1},
	} {
		checkUnary(t, "~", c.v, whole(c.want), conv.Ok)
	}
	for _, v := range []heap.Value{bigInt(0), bigInt(5), bigInt(-5), bigText(greatest), object(0), str("1.5"), str("0x1")} {
		checkUnary(t, "~", v, heap.Value{}, conv.Exit)
	}
}

// What is no operator with one operand is Exit, whatever it stands ahead of.
func TestP11_1_Unknown(t *testing.T) {
	for _, op := range []string{"", "typeof", "delete", "*", "/", "++", "--", "!!", "! ", " !", "Void", "void ", "~~", "-+", "=", "new", "\x00", "\xff", strings.Repeat("!", 5000)} {
		for _, v := range []heap.Value{undefined, null, yes, whole(5), nan, bigInt(5), str("a"), str("1.5"), object(0), {Kind: 9}} {
			checkUnary(t, op, v, heap.Value{}, conv.Exit)
		}
	}
	for _, op := range oper.Ops() {
		if op != "+" && op != "-" {
			checkUnary(t, op, whole(5), heap.Value{}, conv.Exit)
		}
	}
}
