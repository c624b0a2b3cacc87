package oper_test

import (
	"strings"
	"testing"

	"rendezvous/conv"
	"rendezvous/heap"
)

// binary is an operator between two values, and its answer.
type binary struct {
	a    heap.Value
	op   string
	b    heap.Value
	want heap.Value
}

// stopped is an operator between two values that answers a signal.
type stopped struct {
	a      heap.Value
	op     string
	b      heap.Value
	signal int
}

func checkAll(t *testing.T, list []binary) {
	t.Helper()
	for _, c := range list {
		checkBinary(t, c.a, c.op, c.b, c.want, conv.Ok)
	}
}

func checkStopped(t *testing.T, list []stopped) {
	t.Helper()
	for _, c := range list {
		checkBinary(t, c.a, c.op, c.b, heap.Value{}, c.signal)
	}
}

func TestP11_2_Join(t *testing.T) {
	checkAll(t, []binary{
		{str("a"), "+", whole(1), str("a1")}, {whole(1), "+", str("a"), str("1a")}, {str("a"), "+", str("b"), str("ab")}, {str("b"), "+", str("a"), str("ba")}, {str(""), "+", str(""), str("")}, {str(""), "+", whole(0), str("0")},
		{str("1"), "+", str("2"), str("12")}, {str("1"), "+", whole(2), str("12")}, {str(" 1 "), "+", whole(2), str(" 1 2")}, {str("1.5"), "+", whole(2), str("1.52")}, {str("-0"), "+", negZero, str("-00")},
		{str("a"), "+", undefined, str("aundefined")}, {null, "+", str("a"), str("nulla")}, {yes, "+", str("a"), str("truea")}, {str("a"), "+", no, str("afalse")}, {nan, "+", str(""), str("NaN")}, {str("a"), "+", below, str("a-Infinity")},
		{str("a"), "+", bigInt(-5), str("a-5")}, {bigText(greatest), "+", str("n"), str(greatest + "n")}, {str(""), "+", bigInt(0), str("0")},
		{units(0xD83D), "+", units(0xDE00), units(0xD83D, 0xDE00)}, {units(0, 0xFFFF), "+", units(0xDC00), units(0, 0xFFFF, 0xDC00)}, {units(0), "+", null, units(0, 'n', 'u', 'l', 'l')},
	})
	checkStopped(t, []stopped{{str("a"), "+", object(0), conv.Exit}, {object(0), "+", str("a"), conv.Exit}, {object(7), "+", str(""), conv.Exit}, {str("1.5"), "+", object(7), conv.Exit}})
}

func TestP11_2_JoinLength(t *testing.T) {
	long := func(size int) heap.Value { return str(strings.Repeat("x", size)) }
	checkAll(t, []binary{
		{long(most), "+", str(""), long(most)}, {str(""), "+", long(most), long(most)}, {long(most - 1), "+", long(1), long(most)}, {long(1), "+", long(most - 1), long(most)}, {long(most / 2), "+", long(most / 2), long(most)},
		{long(most - 9), "+", undefined, str(strings.Repeat("x", most-9) + "undefined")}, {bigText("-" + greatest), "+", long(most - 79), str("-" + greatest + strings.Repeat("x", most-79))},
	})
	checkStopped(t, []stopped{
		{long(most), "+", long(1), conv.Exit}, {long(1), "+", long(most), conv.Exit}, {long(most), "+", long(most), conv.Exit}, {long(most/2 + 1), "+", long(most / 2), conv.Exit},
		{long(most), "+", whole(0), conv.Exit}, {long(most - 8), "+", undefined, conv.Exit}, {long(most - 3), "+", null, conv.Exit}, {bigText("-" + greatest), "+", long(most - 78), conv.Exit},
	})
}

func TestP11_2_AddNumbers(t *testing.T) {
	checkAll(t, []binary{
		{whole(1), "+", whole(2), whole(3)}, {whole(5), "+", whole(-7), whole(-2)}, {yes, "+", null, whole(1)}, {yes, "+", yes, whole(2)}, {undefined, "+", whole(1), nan}, {null, "+", null, whole(0)}, {undefined, "+", undefined, nan},
		{negZero, "+", negZero, negZero}, {negZero, "+", whole(0), whole(0)}, {null, "+", negZero, whole(0)}, {infinite, "+", below, nan}, {infinite, "+", whole(-5), infinite}, {whole(safe - 1), "+", whole(1), whole(safe)}, {whole(-safe), "+", whole(safe), whole(0)},
		{bigInt(1), "+", bigInt(2), bigInt(3)}, {bigInt(1), "+", bigInt(-1), bigInt(0)}, {bigText(greatest), "+", bigInt(-1), bigText(greatest[:len(greatest)-1] + "4")},
	})
	checkStopped(t, []stopped{
		{whole(safe), "+", whole(1), conv.Exit}, {whole(-safe), "+", whole(-1), conv.Exit}, {whole(safe), "+", whole(safe), conv.Exit}, {whole(safe), "+", yes, conv.Exit},
		{bigText(greatest), "+", bigInt(1), conv.Exit}, {bigText("-" + greatest), "+", bigInt(-1), conv.Exit},
		{bigInt(1), "+", whole(1), conv.Type}, {whole(1), "+", bigInt(1), conv.Type}, {bigInt(1), "+", undefined, conv.Type}, {null, "+", bigInt(1), conv.Type}, {bigInt(0), "+", no, conv.Type}, {nan, "+", bigInt(1), conv.Type},
		{object(0), "+", whole(1), conv.Exit}, {whole(1), "+", object(0), conv.Exit}, {object(0), "+", object(0), conv.Exit}, {object(0), "+", bigInt(1), conv.Exit}, {bigInt(1), "+", object(0), conv.Exit}, {undefined, "+", object(0), conv.Exit},
	})
}

func TestP11_2_Subtract(t *testing.T) {
	checkAll(t, []binary{
		{whole(5), "-", whole(7), whole(-2)}, {str("5"), "-", whole(2), whole(3)}, {str("5"), "-", str("2"), whole(3)}, {whole(0), "-", whole(0), whole(0)}, {negZero, "-", whole(0), negZero}, {whole(0), "-", negZero, whole(0)}, {infinite, "-", infinite, nan}, {whole(1), "-", infinite, below}, {str("x"), "-", whole(1), nan}, {str(""), "-", yes, whole(-1)}, {null, "-", undefined, nan}, {whole(-safe), "-", whole(-safe), whole(0)},
		{bigInt(5), "-", bigInt(7), bigInt(-2)}, {bigInt(7), "-", bigInt(7), bigInt(0)}, {bigText(greatest), "-", bigText(greatest), bigInt(0)},
	})
	checkStopped(t, []stopped{
		{whole(-safe), "-", whole(1), conv.Exit}, {whole(safe), "-", whole(-1), conv.Exit}, {bigText("-" + greatest), "-", bigInt(1), conv.Exit}, {bigText(greatest), "-", bigText("-" + greatest), conv.Exit},
	})
}

func TestP11_2_Multiply(t *testing.T) {
	checkAll(t, []binary{
		{whole(6), "*", whole(-7), whole(-42)}, {whole(-3), "*", whole(0), negZero}, {negZero, "*", whole(-3), whole(0)}, {whole(0), "*", infinite, nan}, {below, "*", whole(-1), infinite}, {str("6"), "*", str("7"), whole(42)}, {yes, "*", null, whole(0)}, {undefined, "*", whole(0), nan}, {whole(safe), "*", whole(-1), whole(-safe)}, {whole(94906265), "*", whole(94906265), whole(9007199136250225)},
		{bigInt(2), "*", bigInt(-3), bigInt(-6)}, {bigInt(0), "*", bigInt(-3), bigInt(0)}, {bigText(greatest), "*", bigInt(-1), bigText("-" + greatest)}, {bigLimbs(false, 0, 0, 0, 0, 1), "*", bigLimbs(true, 1<<32-1, 1<<32-1, 1<<32-1, 1<<32-1), bigLimbs(true, 0, 0, 0, 0, 1<<32-1, 1<<32-1, 1<<32-1, 1<<32-1)},
	})
	checkStopped(t, []stopped{
		{whole(94906266), "*", whole(94906266), conv.Exit}, {whole(safe), "*", whole(2), conv.Exit}, {whole(1 << 32), "*", whole(-1 << 32), conv.Exit}, {whole(safe), "*", whole(safe), conv.Exit},
		{bigLimbs(false, 0, 0, 0, 0, 1), "*", bigLimbs(false, 0, 0, 0, 0, 1), conv.Exit}, {bigText(greatest), "*", bigInt(2), conv.Exit}, {bigText(greatest), "*", bigText(greatest), conv.Exit},
	})
}

func TestP11_2_Divide(t *testing.T) {
	checkAll(t, []binary{
		{whole(6), "/", whole(-3), whole(-2)}, {whole(0), "/", whole(-3), negZero}, {whole(1), "/", whole(0), infinite}, {whole(1), "/", negZero, below}, {whole(0), "/", negZero, nan}, {whole(7), "/", infinite, whole(0)}, {below, "/", below, nan}, {str("6"), "/", yes, whole(6)}, {undefined, "/", whole(1), nan}, {whole(1), "/", null, infinite}, {whole(safe), "/", whole(-safe), whole(-1)},
		{bigInt(7), "/", bigInt(2), bigInt(3)}, {bigInt(-7), "/", bigInt(2), bigInt(-3)}, {bigInt(1), "/", bigInt(-2), bigInt(0)}, {bigInt(0), "/", bigInt(5), bigInt(0)}, {bigText("-" + greatest), "/", bigInt(-1), bigText(greatest)},
	})
	checkStopped(t, []stopped{
		{whole(1), "/", whole(2), conv.Exit}, {whole(-7), "/", whole(2), conv.Exit}, {whole(1), "/", whole(safe), conv.Exit}, {whole(safe), "/", whole(2), conv.Exit}, {yes, "/", str("2"), conv.Exit},
		{bigInt(1), "/", bigInt(0), conv.Range}, {bigInt(0), "/", bigInt(0), conv.Range}, {bigText(greatest), "/", bigInt(0), conv.Range},
		{bigInt(1), "/", whole(0), conv.Type}, {whole(1), "/", bigInt(0), conv.Type}, {bigInt(1), "/", null, conv.Type},
	})
}

func TestP11_2_Remainder(t *testing.T) {
	checkAll(t, []binary{
		{whole(7), "%", whole(4), whole(3)}, {whole(-7), "%", whole(4), whole(-3)}, {whole(7), "%", whole(-4), whole(3)}, {whole(-4), "%", whole(2), negZero}, {whole(5), "%", whole(0), nan}, {whole(5), "%", negZero, nan}, {whole(5), "%", below, whole(5)}, {infinite, "%", whole(5), nan}, {negZero, "%", whole(5), negZero}, {str("7"), "%", str("4"), whole(3)}, {null, "%", yes, whole(0)}, {yes, "%", undefined, nan},
		{bigInt(7), "%", bigInt(2), bigInt(1)}, {bigInt(-7), "%", bigInt(2), bigInt(-1)}, {bigInt(7), "%", bigInt(-2), bigInt(1)}, {bigInt(-4), "%", bigInt(2), bigInt(0)}, {bigText(greatest), "%", bigText(greatest), bigInt(0)},
	})
	checkStopped(t, []stopped{{bigInt(5), "%", bigInt(0), conv.Range}, {bigInt(0), "%", bigInt(0), conv.Range}, {bigInt(5), "%", whole(0), conv.Type}, {no, "%", bigInt(0), conv.Type}})
}

// The signals of all operators that take two numbers or two BigInts, but for +,
// which joins texts.
func TestP11_2_Operands(t *testing.T) {
	for _, op := range strings.Fields("- * / % & | ^ << >> >>>") {
		for _, v := range []heap.Value{undefined, null, yes, whole(1), nan, infinite, str(""), str("x"), str("1")} {
			checkStopped(t, []stopped{{v, op, bigInt(1), conv.Type}, {bigInt(1), op, v, conv.Type}, {v, op, bigInt(0), conv.Type}, {bigInt(0), op, v, conv.Type}})
		}
		for _, bad := range []heap.Value{object(0), object(7), str("1.5"), str("0x1"), str("9007199254740992")} {
			for _, v := range []heap.Value{undefined, null, yes, whole(1), nan, bigInt(0), bigInt(1), str(""), str("x"), str("1.5"), object(0)} {
				checkStopped(t, []stopped{{v, op, bad, conv.Exit}, {bad, op, v, conv.Exit}})
			}
		}
	}
}

func TestP11_2_Bits(t *testing.T) {
	checkAll(t, []binary{
		{whole(12), "&", whole(10), whole(8)}, {whole(12), "|", whole(10), whole(14)}, {whole(12), "^", whole(10), whole(6)}, {whole(-1), "&", whole(1<<32 - 1), whole(-1)}, {whole(1 << 31), "|", whole(0), whole(-1 << 31)}, {whole(1 << 31), "^", whole(-1 << 31), whole(0)}, {whole(safe), "&", whole(safe), whole(-1)}, {whole(-safe), "|", negZero, whole(1)},
		{whole(1), "<<", whole(33), whole(2)}, {whole(1), "<<", whole(31), whole(-1 << 31)}, {whole(3), "<<", whole(-1), whole(-1 << 31)}, {whole(1 << 32), "<<", whole(1), whole(0)},
		{whole(-5), ">>", whole(1), whole(-3)}, {whole(1 << 31), ">>", whole(31), whole(-1)}, {whole(-1), ">>", whole(32), whole(-1)}, {whole(1 << 30), ">>", whole(29), whole(2)},
		{whole(-1), ">>>", whole(0), whole(1<<32 - 1)}, {whole(-5), ">>>", whole(1), whole(1<<31 - 3)}, {whole(-1), ">>>", whole(31), whole(1)}, {whole(-1), ">>>", whole(-31), whole(1<<31 - 1)},
		{str("3"), "^", yes, whole(2)}, {undefined, "|", null, whole(0)}, {nan, "^", infinite, whole(0)}, {below, ">>>", str("x"), whole(0)}, {str("12"), "&", str("10"), whole(8)}, {whole(-1), ">>>", undefined, whole(1<<32 - 1)}, {yes, "<<", str(" 4 "), whole(16)},
	})
}

func TestP11_2_BitsOfBigInts(t *testing.T) {
	for _, a := range []heap.Value{bigInt(0), bigInt(1), bigInt(-5), bigText(greatest)} {
		for _, b := range []heap.Value{bigInt(0), bigInt(1), bigInt(33), bigText("-" + greatest)} {
			for _, op := range strings.Fields("& | ^ << >>") {
				checkBinary(t, a, op, b, heap.Value{}, conv.Exit)
			}
			checkBinary(t, a, ">>>", b, heap.Value{}, conv.Type)
		}
	}
}

// What is no operator between two values is Exit, whatever it stands between.
func TestP11_2_Unknown(t *testing.T) {
	sample := []heap.Value{undefined, null, yes, whole(5), nan, bigInt(5), bigInt(0), str("a"), str("1.5"), object(0), {Kind: 9}}
	for _, op := range []string{"", "in", "instanceof", "**", "&&", "||", "??", "=", "+=", "=>", "====", "!", "~", "!====", "<>", "=<", ">>>>", "<<<", "+ ", " +", "++", "--", ",", ".", "?", "\x00", "\xff", "\xc3", "−", strings.Repeat("+", 5000)} {
		for _, a := range sample {
			for _, b := range sample {
				checkBinary(t, a, op, b, heap.Value{}, conv.Exit)
			}
		}
	}
}

// The numbers that leave the set are just those beyond MaxSafe.
func TestP11_2_EdgeOfTheSet(t *testing.T) {
	for _, n := range []int{1, 2, 1000, 1 << 20, safe / 2} {
		for _, sign := range []int{1, -1} {
			edge := whole(sign * safe)
			checkBinary(t, whole(sign*(safe-n)), "+", whole(sign*n), edge, conv.Ok)
			checkBinary(t, whole(sign*(safe-n)), "-", whole(-sign*n), edge, conv.Ok)
			checkBinary(t, whole(sign*(safe-n)), "+", whole(sign*(n+1)), heap.Value{}, conv.Exit)
			checkBinary(t, whole(sign*(safe-n)), "-", whole(-sign*(n+1)), heap.Value{}, conv.Exit)
		}
	}
}
