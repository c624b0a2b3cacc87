package conv_test

import (
	"fmt"
	"math"
	mathbig "math/big"
	"math/rand"
	"regexp"
	"strings"
	"testing"

	"rendezvous/api"
	"rendezvous/big"
	"rendezvous/conv"
	"rendezvous/heap"
	"rendezvous/num"
	"rendezvous/text"
)

// checkNumber holds Number and, but for BigInts, Numeric to a result.
func checkNumber(t *testing.T, v heap.Value, want api.Num, signal int) {
	t.Helper()
	if a, s := conv.Number(v); a != want || s != signal {
		t.Errorf("Number of %v: %v, %d; want %v, %d", short(v), a, s, want, signal)
	}
	if v.Kind == 4 {
		return
	}
	wanted := heap.Value{}
	if signal == conv.Ok {
		wanted = number(want)
	}
	if w, s := conv.Numeric(v); !heap.Same(w, wanted) || s != signal {
		t.Errorf("Numeric of %v: %v, %d; want %v, %d", short(v), shown(w), s, shown(wanted), signal)
	}
}

func TestP10_2_Number(t *testing.T) {
	checkNumber(t, undefined, nan, conv.Ok)
	checkNumber(t, null, api.Num{}, conv.Ok)
	checkNumber(t, no, api.Num{}, conv.Ok)
	checkNumber(t, yes, api.Num{N: 1}, conv.Ok)
	for _, a := range nums() {
		checkNumber(t, number(a), a, conv.Ok)
	}
	for _, v := range []heap.Value{bigInt(0), bigInt(5), bigInt(-5), bigLimbs(false, 0, 0, 0, 0, 0, 0, 0, 1)} {
		checkNumber(t, v, api.Num{}, conv.Type)
	}
	for _, ref := range []int{0, 1, 77, math.MaxInt} {
		checkNumber(t, object(ref), api.Num{}, conv.Exit)
	}
}

func TestP10_2_NumberOfText(t *testing.T) {
	for _, c := range []struct {
		s      string
		want   api.Num
		signal int
	}{
		{"", api.Num{}, conv.Ok}, {" \t\n\r", api.Num{}, conv.Ok}, {"0", api.Num{}, conv.Ok}, {"-0", negZero, conv.Ok}, {"12", api.Num{N: 12}, conv.Ok}, {" 12 ", api.Num{N: 12}, conv.Ok}, {"+007", api.Num{N: 7}, conv.Ok}, {"-5\n", api.Num{N: -5}, conv.Ok},
		{"9007199254740991", api.Num{N: api.MaxSafe}, conv.Ok}, {"-9007199254740991", api.Num{N: -api.MaxSafe}, conv.Ok}, {"9007199254740992", api.Num{}, conv.Exit}, {"-9007199254740992", api.Num{}, conv.Exit}, {limit, api.Num{}, conv.Exit},
		{"Infinity", infinite, conv.Ok}, {"+Infinity", infinite, conv.Ok}, {"-Infinity", below, conv.Ok}, {"NaN", nan, conv.Ok}, {"x", nan, conv.Ok}, {"-", nan, conv.Ok}, {"1 2", nan, conv.Ok}, {"5n", nan, conv.Ok}, {"\v1", nan, conv.Ok},
		{"1.5", api.Num{}, conv.Exit}, {"1e5", api.Num{}, conv.Exit}, {"0x1F", api.Num{}, conv.Exit}, {"-0x1", api.Num{}, conv.Exit}, {"1_0", api.Num{}, conv.Exit},
		{strings.Repeat("0", most-1) + "7", api.Num{N: 7}, conv.Ok}, {strings.Repeat("7", most), api.Num{}, conv.Exit},
	} {
		checkNumber(t, str(c.s), c.want, c.signal)
	}
	checkNumber(t, units('1', 0xA0), nan, conv.Ok)
	checkNumber(t, units(0x661), nan, conv.Ok)
	checkNumber(t, units(0x131), nan, conv.Ok)
}

// A text is what text.Number reads, or leaves the set.
func checkAsText(t *testing.T, u []uint16) {
	t.Helper()
	if a, ok := text.Number(u); ok {
		checkNumber(t, units(u...), a, conv.Ok)
	} else {
		checkNumber(t, units(u...), api.Num{}, conv.Exit)
	}
}

func TestP10_2_Numeric(t *testing.T) {
	for _, v := range validValues() {
		w, signal := conv.Numeric(v)
		switch {
		case v.Kind == 4:
			if !heap.Same(w, v) || signal != conv.Ok {
				t.Errorf("Numeric of %v: %v, %d", shown(v), shown(w), signal)
			}
		case signal != conv.Ok && !heap.Same(w, undefined), !heap.May(w):
			t.Errorf("Numeric of %v: %v, %d", short(v), shown(w), signal)
		}
	}
}

func checkBig(t *testing.T, v heap.Value, want string, signal int) {
	t.Helper()
	b, s := conv.BigInt(v)
	if big.Text(b) != want || !big.May(b) || s != signal {
		t.Errorf("BigInt of %v: %v, %d; want %s, %d", short(v), b, s, want, signal)
	}
}

func TestP10_3_BigInt(t *testing.T) {
	checkBig(t, undefined, "0", conv.Type)
	checkBig(t, null, "0", conv.Type)
	for _, a := range nums() {
		checkBig(t, number(a), "0", conv.Type)
	}
	checkBig(t, no, "0", conv.Ok)
	checkBig(t, yes, "1", conv.Ok)
	for _, n := range []int{0, 1, -1, 5, -9, 1 << 32, math.MaxInt, math.MinInt} {
		checkBig(t, bigInt(n), fmt.Sprint(n), conv.Ok)
	}
	checkBig(t, bigLimbs(true, 1<<32-1, 1<<32-1, 1<<32-1, 1<<32-1, 1<<32-1, 1<<32-1, 1<<32-1, 1<<32-1), "-"+greatest, conv.Ok)
	for _, ref := range []int{0, 1, 77, math.MaxInt} {
		checkBig(t, object(ref), "0", conv.Exit)
	}
}

func TestP10_3_BigIntOfDigits(t *testing.T) {
	for s, want := range map[string]string{
		"": "0", " ": "0", "\t\n\r ": "0", strings.Repeat(" ", most): "0", "0": "0", "-0": "0", "+0": "0", "000": "0", "-000": "0", "7": "7", "-7": "-7", "+7": "7", "007": "7", "-007": "-7", "+007": "7", " 7": "7", "7\n": "7", " \t\n\r-7\r\n\t ": "-7",
		"9007199254740992": "9007199254740992", "-18446744073709551616": "-18446744073709551616", "10": "10", "100": "100", "1234567890": "1234567890",
		greatest: greatest, "-" + greatest: "-" + greatest, "+" + greatest: greatest, "000" + greatest: greatest,
		strings.Repeat("0", most): "0", strings.Repeat("0", most-1) + "1": "1", "-" + strings.Repeat("0", most-2) + "1": "-1", strings.Repeat("0", most-len(greatest)) + greatest: greatest,
	} {
		checkBig(t, str(s), want, conv.Ok)
	}
	for _, s := range []string{limit, "-" + limit, "+" + limit, "0" + limit, " " + limit + " ", greatest + "0", "-" + greatest + "0", strings.Repeat("9", most), strings.Repeat("9", 79)} {
		checkBig(t, str(s), "0", conv.Exit)
	}
}

func TestP10_3_BigIntOfOtherTexts(t *testing.T) {
	for _, s := range []string{"0x1F", "0X1f", "0b1", "0B1", "0o7", "0O7", "1e5", "1E5", "0x", "x0", "1x", "a1", "1a", "F9", "0xx", "0oX", "oO0", " 0x1 ", "\n1f", "9a9", "f0", strings.Repeat("a", most-1) + "0"} {
		checkBig(t, str(s), "0", conv.Exit)
	}
	for _, s := range []string{"x", "-", "+", "--5", "++5", "+-5", "-+5", "5-", "5+", "- 5", "1 2", "1.5", ".5", "5.", "5n", "0n", "1_0", "-0x1", "+0x1", "0x-1", "1g", "1G", "0z", "a", "f", "F", "abc", "xo", "e", "E", "_", "0xg", "1w", "1`", "1@", "1/", "1:", "1p", "1y",
		"NaN", "Infinity", "-Infinity", "true", "null", "\v1", "1\f", "1\v", "0x 1", "1\x00", "\x00", "1\x7f", strings.Repeat("x", most)} {
		checkBig(t, str(s), "0", conv.Syntax)
	}
	for _, u := range [][]uint16{{0xA0}, {0xFEFF}, {'1', 0xA0}, {0xFEFF, '1'}, {0x661}, {0x131}, {'1', 0x130}, {' ', 0xD800}, {0x2028, '1'}, {'0', 'x', 0x80}, {0xFF11}} {
		checkBig(t, units(u...), "0", conv.Syntax)
	}
}

var (
	inBlanks = regexp.MustCompile(`(?s)^[\x20\x09\x0A\x0D]*(.*?)[\x20\x09\x0A\x0D]*$`)
	asDigits = regexp.MustCompile(`^[+-]?[0-9]+$`)
	asExit   = regexp.MustCompile(`^[0-9a-fA-FxXoO]*[0-9][0-9a-fA-FxXoO]*$`)
)

// readBig is a second reading of what the BigInt of a text is.
func readBig(u []uint16) (string, int) {
	runes := []rune{}
	for _, unit := range u {
		// Surrogates become another character of more than 127 here.
		runes = append(runes, rune(unit))
	}
	s := inBlanks.FindStringSubmatch(string(runes))[1]
	switch {
	case s == "":
		return "0", conv.Ok
	case asDigits.MatchString(s):
		n, _ := new(mathbig.Int).SetString(s, 10)
		if n.BitLen() > 256 {
			return "0", conv.Exit
		}
		return n.String(), conv.Ok
	case asExit.MatchString(s):
		return "0", conv.Exit
	}
	return "0", conv.Syntax
}

func checkText(t *testing.T, u ...uint16) {
	t.Helper()
	want, signal := readBig(u)
	checkBig(t, units(u...), want, signal)
	checkAsText(t, u)
}

// Every unit alone, and beside a digit.
func TestP10_3_EveryUnit(t *testing.T) {
	for n := range 1 << 16 {
		unit := uint16(n)
		checkText(t, unit)
		checkText(t, unit, '1')
		checkText(t, '1', unit)
		checkText(t, '1', unit, '0')
	}
}

// All texts of up to four units of those that matter.
func TestP10_3_ShortTexts(t *testing.T) {
	alphabet := []uint16{'0', '1', '9', 'a', 'f', 'F', 'g', 'n', 'e', 'x', 'X', 'o', '-', '+', '.', '_', ' ', '\n', '\v', 0xA0}
	var all func(u []uint16, left int)
	all = func(u []uint16, left int) {
		checkText(t, u...)
		if left == 0 {
			return
		}
		for _, unit := range alphabet {
			all(append(u[:len(u):len(u)], unit), left-1)
		}
	}
	all(nil, 4)
}

func TestP10_3_RandomTexts(t *testing.T) {
	r := rand.New(rand.NewSource(10))
	for range 50000 {
		u := []uint16{}
		for range r.Intn(3) {
			u = append(u, uint16(" \t\n\r\v-+0"[r.Intn(8)]))
		}
		for range r.Intn([]int{5, 40, 100}[r.Intn(3)]) {
			u = append(u, uint16('0'+r.Intn(10)))
		}
		for range r.Intn(3) {
			u = append(u, uint16(" \t\n\rxnaO."[r.Intn(9)]))
		}
		checkText(t, u...)
	}
}

func checkIndex(t *testing.T, v heap.Value, want, signal int) {
	t.Helper()
	if n, s := conv.Index(v); n != want || s != signal {
		t.Errorf("Index of %v: %d, %d; want %d, %d", short(v), n, s, want, signal)
	}
}

func TestP10_4_Index(t *testing.T) {
	for _, c := range []struct {
		v      heap.Value
		want   int
		signal int
	}{
		{undefined, 0, conv.Ok}, {null, 0, conv.Ok}, {no, 0, conv.Ok}, {yes, 1, conv.Ok}, {whole(0), 0, conv.Ok}, {number(negZero), 0, conv.Ok}, {number(nan), 0, conv.Ok}, {whole(7), 7, conv.Ok}, {whole(api.MaxSafe), api.MaxSafe, conv.Ok},
		{whole(-1), 0, conv.Range}, {whole(-api.MaxSafe), 0, conv.Range}, {number(infinite), 0, conv.Range}, {number(below), 0, conv.Range},
		{bigInt(0), 0, conv.Type}, {bigInt(1), 0, conv.Type}, {object(0), 0, conv.Exit}, {object(7), 0, conv.Exit},
		{str(""), 0, conv.Ok}, {str("x"), 0, conv.Ok}, {str("7"), 7, conv.Ok}, {str(" 007 "), 7, conv.Ok}, {str("-0"), 0, conv.Ok}, {str("9007199254740991"), api.MaxSafe, conv.Ok}, {str("-1"), 0, conv.Range}, {str("Infinity"), 0, conv.Range}, {str("-Infinity"), 0, conv.Range},
		{str("1.5"), 0, conv.Exit}, {str("9007199254740992"), 0, conv.Exit}, {str("0x1"), 0, conv.Exit},
	} {
		checkIndex(t, c.v, c.want, c.signal)
	}
}

func TestP10_4_IndexOfAll(t *testing.T) {
	for _, v := range validValues() {
		a, signal := conv.Number(v)
		n, ok := num.Index(a)
		switch {
		case signal != conv.Ok:
			checkIndex(t, v, 0, signal)
		case !ok:
			checkIndex(t, v, 0, conv.Range)
		default:
			checkIndex(t, v, n, conv.Ok)
		}
	}
}
