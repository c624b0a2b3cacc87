package oper_test

import (
	"strings"
	"testing"

	"rendezvous/conv"
	"rendezvous/heap"
)

// checkOrder holds the four operators of the order to what they answer of a
// and b, and of b and a.
func checkOrder(t *testing.T, a, b heap.Value, less, equal, more bool) {
	t.Helper()
	for _, c := range []struct {
		op           string
		there, again bool
	}{{"<", less, more}, {">", more, less}, {"<=", less || equal, more || equal}, {">=", more || equal, less || equal}} {
		checkBinary(t, a, c.op, b, truth(c.there), conv.Ok)
		checkBinary(t, b, c.op, a, truth(c.again), conv.Ok)
	}
}

// rising are lists of values of which each is less than the next one.
func rising() [][]heap.Value {
	return [][]heap.Value{
		{below, bigText("-" + greatest), bigInt(-safe - 1), whole(-safe), bigInt(-safe + 1), whole(-5), bigInt(-4), whole(-1), negZero, bigInt(1), whole(2), bigInt(3), whole(1 << 32), bigInt(1<<32 + 1), whole(safe), bigInt(safe + 1), bigLimbs(false, 5, 0, 1), bigText(greatest), infinite},
		{bigText("-" + greatest), whole(-5), bigInt(0), yes, bigInt(2), infinite},
		{str("-Infinity"), whole(-safe), null, infinite}, {below, str("-9007199254740991"), whole(-safe + 1)}, {whole(-2), str("-1"), null}, {yes, str(" 2 "), whole(10)}, {whole(9), str("10"), whole(11)}, {whole(safe), str("Infinity")},
		{no, yes, whole(2)}, {below, no, whole(1)}, {null, yes, bigInt(2)}, {str("-3"), no, str("1")},
		{str(""), units(0), units(0, 0), str("10"), str("9"), str("B"), str("NaN"), str("a"), str("a "), str("aa"), str("b"), units(0xD83D, 0xDE00), units(0xE000), units(0xFFFF)},
	}
}

func TestP11_2_Order(t *testing.T) {
	for _, list := range rising() {
		for i, a := range list {
			checkOrder(t, a, a, false, true, false)
			for _, b := range list[i+1:] {
				checkOrder(t, a, b, true, false, false)
			}
		}
	}
}

// Equal in the order are values that need not be so strictly.
func TestP11_2_OrderOfEquals(t *testing.T) {
	for _, list := range [][]heap.Value{
		{whole(0), negZero, bigInt(0), null, no}, {whole(1), bigInt(1), yes}, {whole(0), negZero, blanks(), null, no}, {whole(1), str("01"), yes},
		{whole(safe), bigInt(safe)}, {whole(-safe), bigInt(-safe)}, {infinite, str("Infinity")}, {below, str("-Infinity")}, {whole(7), str(" 7 ")},
	} {
		for _, a := range list {
			for _, b := range list {
				checkOrder(t, a, b, false, true, false)
			}
		}
	}
}

// blanks is the text of blanks, which is 0.
func blanks() heap.Value { return str(" \n") }

func TestP11_2_OrderOfNaN(t *testing.T) {
	for _, a := range []heap.Value{nan, undefined} {
		for _, b := range []heap.Value{nan, undefined, null, no, yes, whole(0), whole(-5), negZero, infinite, below, bigInt(0), bigInt(5), bigText("-" + greatest), str(""), str("1"), str("x"), str("NaN")} {
			checkOrder(t, a, b, false, false, false)
		}
	}
	for _, a := range []heap.Value{str("x"), str("NaN"), str("undefined"), units(0xA0)} {
		for _, b := range []heap.Value{null, yes, whole(0), infinite, below, nan, undefined} {
			checkOrder(t, a, b, false, false, false)
		}
		checkOrder(t, a, a, false, true, false)
	}
}

func TestP11_2_OrderOfTexts(t *testing.T) {
	long := strings.Repeat("x", most)
	checkOrder(t, str("10"), str("9"), true, false, false)
	checkOrder(t, str("10"), whole(9), false, false, true)
	checkOrder(t, str("1.5"), str("0x1"), false, false, true)
	checkOrder(t, str("1"), str("01"), false, false, true)
	checkOrder(t, str("Infinity"), str("-Infinity"), false, false, true)
	checkOrder(t, str(long), str(long[1:]), false, false, true)
	checkOrder(t, str(long), str(long[1:]+"y"), true, false, false)
	checkOrder(t, str(long), str(long), false, true, false)
}

func TestP11_2_OrderStops(t *testing.T) {
	for _, op := range strings.Fields("< > <= >=") {
		for _, v := range append(validValues(), heap.Value{Kind: 9}) {
			checkStopped(t, []stopped{{object(0), op, v, conv.Exit}, {v, op, object(7), conv.Exit}})
			if v.Kind == 5 {
				checkStopped(t, []stopped{{bigInt(1), op, v, conv.Exit}, {v, op, bigInt(0), conv.Exit}})
			}
		}
		for _, bad := range []heap.Value{str("1.5"), str("0x1"), str("9007199254740992")} {
			for _, v := range []heap.Value{undefined, null, no, whole(2), nan, infinite} {
				checkStopped(t, []stopped{{bad, op, v, conv.Exit}, {v, op, bad, conv.Exit}})
			}
		}
	}
}

// checkEquality holds the four operators of equality to two answers, of which the
// loose one may be a signal.
func checkEquality(t *testing.T, a, b heap.Value, strict, loose bool, signal int) {
	t.Helper()
	checkBinary(t, a, "===", b, truth(strict), conv.Ok)
	checkBinary(t, a, "!==", b, truth(!strict), conv.Ok)
	if signal != conv.Ok {
		checkBinary(t, a, "==", b, heap.Value{}, signal)
		checkBinary(t, a, "!=", b, heap.Value{}, signal)
		return
	}
	checkBinary(t, a, "==", b, truth(loose), conv.Ok)
	checkBinary(t, a, "!=", b, truth(!loose), conv.Ok)
}

func TestP11_2_Equality(t *testing.T) {
	for _, c := range []struct {
		a, b          heap.Value
		strict, loose bool
		signal        int
	}{
		{undefined, undefined, true, true, conv.Ok}, {undefined, null, false, true, conv.Ok}, {null, whole(0), false, false, conv.Ok}, {yes, yes, true, true, conv.Ok}, {yes, whole(1), false, true, conv.Ok}, {no, str(""), false, true, conv.Ok}, {yes, bigInt(1), false, true, conv.Ok},
		{nan, nan, false, false, conv.Ok}, {whole(0), negZero, true, true, conv.Ok}, {whole(1), str("1"), false, true, conv.Ok}, {whole(1), str("2"), false, false, conv.Ok}, {bigInt(2), whole(2), false, true, conv.Ok}, {bigInt(2), bigInt(2), true, true, conv.Ok}, {bigInt(2), bigInt(-2), false, false, conv.Ok},
		{str("a"), str("a"), true, true, conv.Ok}, {str("1"), str("01"), false, false, conv.Ok}, {object(7), object(7), true, true, conv.Ok}, {object(7), object(8), false, false, conv.Ok}, {object(0), undefined, false, false, conv.Ok}, {object(0), null, false, false, conv.Ok},
		{bigInt(1), str("1"), false, false, conv.Exit}, {object(0), whole(0), false, false, conv.Exit}, {object(0), str("a"), false, false, conv.Exit}, {object(1), yes, false, false, conv.Exit}, {object(0), bigInt(0), false, false, conv.Exit}, {whole(1), str("1.5"), false, false, conv.Exit}, {no, str("0x1"), false, false, conv.Exit},
	} {
		checkEquality(t, c.a, c.b, c.strict, c.loose, c.signal)
		checkEquality(t, c.b, c.a, c.strict, c.loose, c.signal)
	}
}

func TestP11_2_EqualityOfAll(t *testing.T) {
	for _, a := range validValues() {
		for _, b := range validValues() {
			loose, signal := conv.Loose(a, b)
			checkEquality(t, a, b, conv.Strict(a, b), loose, signal)
		}
	}
}
