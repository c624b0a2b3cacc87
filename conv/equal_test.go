package conv_test

import (
	"testing"

	"rendezvous/api"
	"rendezvous/big"
	"rendezvous/conv"
	"rendezvous/heap"
	"rendezvous/num"
	"rendezvous/text"
)

// worth tells the number that a value of these kinds stands for, and whether it
// does so within the set. Both zeros are told alike.
func worth(v heap.Value) (string, bool) {
	switch v.Kind {
	case 2:
		return string(rune('0' + v.Ref)), true
	case 3:
		return num.Text(v.N), true
	case 4:
		return big.Text(v.B), true
	}
	a, ok := text.Number(v.S)
	return num.Text(a), ok
}

// isStrict is a second reading of what Strict answers.
func isStrict(a, b heap.Value) bool {
	switch {
	case a.Kind != b.Kind:
		return false
	case a.Kind == 3 || a.Kind == 4:
		x, _ := worth(a)
		y, _ := worth(b)
		return x == y && x != "NaN"
	}
	return shown(a.S) == shown(b.S) && a.Ref == b.Ref
}

// isLoose is a second reading of what Loose answers.
func isLoose(a, b heap.Value) (bool, int) {
	// A row a kind, from undefined on; so are the columns. s: strictly, n: as numbers,
	// t and f: the answer, X: not at all.
	rows := []string{
		"stfffff",
		"tsfffff",
		"ffsnnnX",
		"ffnsnnX",
		"ffnnsXX",
		"ffnnXsX",
		"ffXXXXs",
	}
	switch rows[a.Kind][b.Kind] {
	case 's':
		return isStrict(a, b), conv.Ok
	case 't':
		return true, conv.Ok
	case 'f':
		return false, conv.Ok
	case 'X':
		return false, conv.Exit
	}
	x, ok := worth(a)
	y, too := worth(b)
	if !ok || !too {
		return false, conv.Exit
	}
	return x == y && x != "NaN", conv.Ok
}

func checkStrict(t *testing.T, a, b heap.Value, want bool) {
	t.Helper()
	if conv.Strict(a, b) != want {
		t.Errorf("Strict of %v and %v: %v", short(a), short(b), !want)
	}
}

func checkLoose(t *testing.T, a, b heap.Value, want bool, signal int) {
	t.Helper()
	if is, s := conv.Loose(a, b); is != want || s != signal {
		t.Errorf("Loose of %v and %v: %v, %d; want %v, %d", short(a), short(b), is, s, want, signal)
	}
}

func TestP10_5_Strict(t *testing.T) {
	for _, c := range []struct {
		a, b heap.Value
		want bool
	}{
		{undefined, undefined, true}, {null, null, true}, {undefined, null, false}, {yes, yes, true}, {no, no, true}, {yes, no, false},
		{whole(7), whole(7), true}, {whole(7), whole(-7), false}, {whole(0), number(negZero), true}, {number(negZero), number(negZero), true}, {number(nan), number(nan), false}, {number(infinite), number(infinite), true}, {number(infinite), number(below), false}, {whole(0), number(nan), false},
		{bigInt(5), bigInt(5), true}, {bigInt(5), bigInt(-5), false}, {bigInt(0), bigLimbs(false, []uint32{}...), true}, {bigLimbs(false, 1, 2), bigLimbs(false, 1), false}, {bigLimbs(false, 1, 2), bigLimbs(false, 2, 2), false},
		{str("ab"), str("ab"), true}, {str("ab"), str("abc"), false}, {str("ab"), str("ac"), false}, {str(""), units([]uint16{}...), true}, {str("1"), str("01"), false}, {str("NaN"), str("NaN"), true}, {str("0"), str("-0"), false},
		{object(3), object(3), true}, {object(0), object(0), true}, {object(3), object(4), false},
		{whole(1), yes, false}, {whole(1), bigInt(1), false}, {whole(1), str("1"), false}, {bigInt(1), str("1"), false}, {no, whole(0), false}, {object(0), undefined, false}, {object(1), yes, false}, {object(0), null, false}, {str(""), undefined, false}, {str("undefined"), undefined, false}, {number(nan), undefined, false}, {bigInt(0), whole(0), false},
	} {
		checkStrict(t, c.a, c.b, c.want)
		checkStrict(t, c.b, c.a, c.want)
	}
}

func TestP10_5_Loose(t *testing.T) {
	for _, c := range []struct {
		a, b   heap.Value
		want   bool
		signal int
	}{
		// 1: one kind.
		{undefined, undefined, true, conv.Ok}, {yes, yes, true, conv.Ok}, {yes, no, false, conv.Ok}, {number(nan), number(nan), false, conv.Ok}, {whole(0), number(negZero), true, conv.Ok}, {str("1"), str("01"), false, conv.Ok}, {str("1.5"), str("1.5"), true, conv.Ok}, {bigInt(2), bigInt(2), true, conv.Ok}, {object(3), object(3), true, conv.Ok}, {object(3), object(4), false, conv.Ok},
		// 2: undefined and null.
		{undefined, null, true, conv.Ok}, {null, whole(0), false, conv.Ok}, {undefined, number(nan), false, conv.Ok}, {null, no, false, conv.Ok}, {null, str(""), false, conv.Ok}, {null, str("1.5"), false, conv.Ok}, {undefined, bigInt(0), false, conv.Ok}, {undefined, object(0), false, conv.Ok}, {null, object(0), false, conv.Ok},
		// 3: booleans.
		{yes, whole(1), true, conv.Ok}, {no, number(negZero), true, conv.Ok}, {yes, whole(2), false, conv.Ok}, {no, number(nan), false, conv.Ok}, {yes, str("1"), true, conv.Ok}, {no, str(""), true, conv.Ok}, {yes, str("true"), false, conv.Ok}, {yes, str("1.5"), false, conv.Exit}, {yes, bigInt(1), true, conv.Ok}, {no, bigInt(1), false, conv.Ok}, {no, bigInt(0), true, conv.Ok},
		// 4: objects.
		{object(1), yes, false, conv.Exit}, {object(0), whole(0), false, conv.Exit}, {object(0), number(nan), false, conv.Exit}, {object(0), str(""), false, conv.Exit}, {object(0), str("1.5"), false, conv.Exit}, {object(0), bigInt(0), false, conv.Exit},
		// 5: numbers and texts.
		{whole(5), str(" 5 "), true, conv.Ok}, {whole(5), str("6"), false, conv.Ok}, {number(negZero), str("0"), true, conv.Ok}, {whole(0), str("-0"), true, conv.Ok}, {whole(0), str(""), true, conv.Ok}, {number(nan), str("NaN"), false, conv.Ok}, {number(nan), str("x"), false, conv.Ok}, {number(infinite), str("Infinity"), true, conv.Ok}, {number(below), str("Infinity"), false, conv.Ok}, {whole(1), str("1.5"), false, conv.Exit}, {number(nan), str("1.5"), false, conv.Exit}, {whole(1), str("0x1"), false, conv.Exit}, {whole(0), units('0', 0xA0), false, conv.Ok},
		// 6: BigInts and numbers.
		{bigInt(2), whole(2), true, conv.Ok}, {bigInt(2), whole(-2), false, conv.Ok}, {bigInt(0), number(negZero), true, conv.Ok}, {bigInt(0), whole(0), true, conv.Ok}, {bigInt(0), number(nan), false, conv.Ok}, {bigInt(0), number(infinite), false, conv.Ok}, {bigInt(0), number(below), false, conv.Ok}, {bigInt(api.MaxSafe), whole(api.MaxSafe), true, conv.Ok}, {bigInt(-api.MaxSafe), whole(-api.MaxSafe), true, conv.Ok}, {bigInt(api.MaxSafe + 1), whole(api.MaxSafe), false, conv.Ok}, {bigLimbs(false, 5, 0, 1), whole(5), false, conv.Ok},
		// 7: BigInts and texts.
		{bigInt(1), str("1"), false, conv.Exit}, {bigInt(1), str("x"), false, conv.Exit}, {bigInt(0), str(""), false, conv.Exit}, {bigInt(1), str("1.5"), false, conv.Exit},
	} {
		checkLoose(t, c.a, c.b, c.want, c.signal)
		checkLoose(t, c.b, c.a, c.want, c.signal)
	}
}

// All pairs, by the second readings; the lists of both values are never the same ones.
func TestP10_5_AllPairs(t *testing.T) {
	for i, a := range validValues() {
		for j, b := range validValues() {
			checkStrict(t, a, b, isStrict(a, b))
			want, signal := isLoose(a, b)
			checkLoose(t, a, b, want, signal)
			// The samples are all different, but for the zeros of one kind.
			zeros := a.Kind == 3 && b.Kind == 3 && !conv.Bool(a) && !conv.Bool(b)
			if !zeros && conv.Strict(a, b) != (i == j) {
				t.Errorf("Strict of samples %d and %d", i, j)
			}
		}
	}
}

func TestP10_7_Order(t *testing.T) {
	all := validValues()
	for _, one := range invalidValues() {
		all = append(all, one.bad)
	}
	// Each with some of the others only: there are many that are not valid.
	for i, a := range all {
		for j := i % 7; j < len(all); j += 7 {
			b := all[j]
			is, signal := conv.Loose(a, b)
			back, other := conv.Loose(b, a)
			if is != back || signal != other || conv.Strict(a, b) != conv.Strict(b, a) {
				t.Errorf("%v and %v are compared otherwise the other way round", short(a), short(b))
			}
		}
	}
}
