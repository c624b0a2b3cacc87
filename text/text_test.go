package text

import (
	"bytes"
	"math/big"
	"math/rand"
	"regexp"
	"slices"
	"strconv"
	"strings"
	"testing"
	"unicode/utf16"
	"unicode/utf8"

	"rendezvous/api"
)

const most = api.MaxText

// result is what Units answers.
type result struct {
	units []uint16
	at    int
	errno api.Errno
}

func unitsOf(b []byte) result {
	u, at, e := Units(b)
	return result{u, at, e}
}

func (r result) is(other result) bool {
	return slices.Equal(r.units, other.units) && r.at == other.at && r.errno == other.errno
}

// character reads the first character of b bit by bit, as the promise tells it;
// it does not use the library's decoder.
func character(b []byte) (r rune, size int, ok bool) {
	marks := []struct{ mask, mark, least int }{{0x80, 0, 0}, {0xE0, 0xC0, 0x80}, {0xF0, 0xE0, 0x800}, {0xF8, 0xF0, 0x10000}}
	for i, m := range marks {
		size = i + 1
		if int(b[0])&m.mask != m.mark {
			continue
		}
		if len(b) < size {
			return 0, 0, false
		}
		n := int(b[0]) &^ m.mask
		for _, c := range b[1:size] {
			if c&0xC0 != 0x80 {
				return 0, 0, false
			}
			n = n<<6 | int(c&0x3F)
		}
		ok = n >= m.least && n <= 0x10FFFF && (n < 0xD800 || n > 0xDFFF)
		return rune(n), size, ok
	}
	return 0, 0, false
}

// wanted is what Units has to answer for bytes that are not too long.
func wanted(b []byte) result {
	out := result{}
	for at := 0; at < len(b); {
		r, size, ok := character(b[at:])
		if !ok {
			return result{nil, at, api.ErrForm}
		}
		out.units = utf16.AppendRune(out.units, r)
		at += size
	}
	return out
}

// eachCharacter calls check for all characters; surrogates are none.
func eachCharacter(check func(r rune)) {
	for r := rune(0); r <= 0x10FFFF; r++ {
		if r < 0xD800 || r > 0xDFFF {
			check(r)
		}
	}
}

func TestP3_1_UnitsOfEveryCharacter(t *testing.T) {
	eachCharacter(func(r rune) {
		want := []uint16{uint16(r)}
		if r >= 0x10000 {
			want = []uint16{uint16(0xD800 + (r-0x10000)/0x400), uint16(0xDC00 + (r-0x10000)%0x400)}
		}
		if got := unitsOf([]byte(string(r))); !got.is(result{units: want}) {
			t.Fatalf("Units of %X: %+v", r, got)
		}
	})
}

func TestP3_1_Units(t *testing.T) {
	for s, want := range map[string][]uint16{
		"":                         nil,
		"a":                        {0x61},
		"\x00\x7F":                 {0, 0x7F},
		"\xC2\x80\xDF\xBF":         {0x80, 0x7FF},
		"\xC3\xA9":                 {0xE9},
		"\xE0\xA0\x80":             {0x800},
		"\xED\x9F\xBF\xEE\x80\x80": {0xD7FF, 0xE000},
		"\xEF\xBB\xBFa":            {0xFEFF, 0x61},
		"\xEF\xBF\xBD":             {0xFFFD},
		"\xEF\xBF\xBE\xEF\xBF\xBF": {0xFFFE, 0xFFFF},
		"\xF0\x90\x80\x80":         {0xD800, 0xDC00},
		"\xF0\x9F\x98\x80":         {0xD83D, 0xDE00},
		"\xF4\x8F\xBF\xBF":         {0xDBFF, 0xDFFF},
		"aé€😀z":                    {0x61, 0xE9, 0x20AC, 0xD83D, 0xDE00, 0x7A},
	} {
		if got := unitsOf([]byte(s)); !got.is(result{units: want}) {
			t.Errorf("Units(%q) = %+v", s, got)
		}
	}
	if got := unitsOf(nil); !got.is(result{}) {
		t.Errorf("Units(nil) = %+v", got)
	}
}

// illFormed has bytes that are ill-formed from the first one on.
func illFormed() []string {
	return []string{
		"\x80", "\xBF", "\xFE", "\xFF", "\xF8\x88\x80\x80\x80", "\xFC\x84\x80\x80\x80\x80", // no first byte
		"\xC0\x80", "\xC1\xBF", "\xE0\x80\x80", "\xE0\x9F\xBF", "\xF0\x80\x80\x80", "\xF0\x8F\xBF\xBF", // longer than needed
		"\xED\xA0\x80", "\xED\xAF\xBF", "\xED\xB0\x80", "\xED\xBF\xBF", "\xED\xA0\x80\xED\xB0\x80", // surrogates
		"\xF4\x90\x80\x80", "\xF5\x80\x80\x80", "\xF7\xBF\xBF\xBF", // beyond 10FFFF
		"\xC3", "\xE2", "\xE2\x82", "\xF0", "\xF0\x9F", "\xF0\x9F\x98", // cut off by the end
		"\xC3a", "\xC3\xC3\xA9", "\xE2\x82a", "\xE2a\x82", "\xF0\x9F\x98a", "\xF0\x9Fa\x80", "\xF0a\x98\x80", "\xF0\x9F\x98\xC0", // cut off by another character
	}
}

func TestP3_1_UnitsIllFormed(t *testing.T) {
	for _, bad := range illFormed() {
		for _, before := range []string{"", "a", "ab", "é", "€", "\uFFFD", "😀", "aé€😀z"} {
			for _, after := range []string{"", "a", "\x80", "é", "\xFF"} {
				if after == "\x80" && (bad == "\xC3" || bad == "\xE2\x82" || bad == "\xF0\x9F\x98") {
					// That byte makes a character of it.
					continue
				}
				want := result{at: len(before), errno: api.ErrForm}
				if got := unitsOf([]byte(before + bad + after)); !got.is(want) {
					t.Errorf("Units(%q) = %+v", before+bad+after, got)
				}
			}
		}
	}
}

func TestP3_1_UnitsOfAllEdges(t *testing.T) {
	edges := []byte{0, 0x41, 0x7F, 0x80, 0x81, 0x8F, 0x90, 0x9F, 0xA0, 0xBF, 0xC0, 0xC2, 0xED, 0xF0, 0xFF}
	check := func(b ...byte) {
		if got := unitsOf(b); !got.is(wanted(b)) {
			t.Fatalf("Units(%x) = %+v", b, got)
		}
	}
	for first := range 256 {
		check(byte(first))
		for second := range 256 {
			check(byte(first), byte(second))
			for _, third := range edges {
				check(byte(first), byte(second), third)
				for _, fourth := range edges {
					check(byte(first), byte(second), third, fourth)
				}
			}
		}
	}
}

func TestP3_1_UnitsTooLong(t *testing.T) {
	for _, s := range []string{strings.Repeat("a", most), strings.Repeat("é", most/2), strings.Repeat("😀", most/4), strings.Repeat("€", most/3) + "a"} {
		if got := unitsOf([]byte(s)); !got.is(result{units: utf16.Encode([]rune(s))}) {
			t.Errorf("Units of %d bytes: %d units, %d, %d", len(s), len(got.units), got.at, got.errno)
		}
	}
	// Bytes count, not units; and the length is asked ahead of the form.
	for _, s := range []string{strings.Repeat("a", most+1), strings.Repeat("é", most/2) + "a", strings.Repeat("😀", most/4+1), "\xFF" + strings.Repeat("a", most), strings.Repeat("a", most) + "\xFF", strings.Repeat("\x80", 3*most)} {
		if got := unitsOf([]byte(s)); !got.is(result{errno: api.ErrLong}) {
			t.Errorf("Units of %d bytes: %d units, %d, %d", len(s), len(got.units), got.at, got.errno)
		}
	}
	last := strings.Repeat("a", most-1) + "\xC3"
	if got := unitsOf([]byte(last)); !got.is(result{at: most - 1, errno: api.ErrForm}) {
		t.Errorf("Units of %d bytes: %d units, %d, %d", len(last), len(got.units), got.at, got.errno)
	}
	// What stands behind the length of an argument does not count.
	if got := unitsOf([]byte("é")[:1]); !got.is(result{errno: api.ErrForm}) {
		t.Errorf("Units of a part: %+v", got)
	}
	if got := unitsOf([]byte(strings.Repeat("a", most+1))[:most]); got.errno != api.OK || len(got.units) != most {
		t.Errorf("Units of a part: %d units, %d, %d", len(got.units), got.at, got.errno)
	}
}

func TestP3_1_BytesOfEveryUnit(t *testing.T) {
	for n := range 1 << 16 {
		b, e := Bytes([]uint16{uint16(n)})
		if n >= 0xD800 && n <= 0xDFFF {
			if len(b) > 0 || e != api.ErrForm {
				t.Errorf("Bytes(%X) = %x, %d", n, b, e)
			}
			continue
		}
		if string(b) != string(rune(n)) || e != api.OK {
			t.Errorf("Bytes(%X) = %x, %d", n, b, e)
		}
	}
}

func TestP3_1_BytesOfPairs(t *testing.T) {
	edges := []uint16{0, 0x41, 0x7F, 0x80, 0x7FF, 0x800, 0xD7FF, 0xD800, 0xD801, 0xDBFF, 0xDC00, 0xDC01, 0xDFFF, 0xE000, 0xFFFD, 0xFFFF}
	check := func(u ...uint16) {
		want, ok := encoded(u)
		b, e := Bytes(u)
		if string(b) != want || (e == api.OK) != ok || !ok && e != api.ErrForm {
			t.Errorf("Bytes(%X) = %x, %d", u, b, e)
		}
	}
	for _, a := range edges {
		for _, b := range edges {
			check(a, b)
			for _, c := range edges {
				check(a, b, c)
				for _, d := range edges {
					check(a, b, c, d)
				}
			}
		}
	}
}

// encoded is what Bytes has to answer: the library replaces each surrogate that
// has no other half by FFFD, so a text without any comes back as it was.
func encoded(u []uint16) (string, bool) {
	runes := utf16.Decode(u)
	if !slices.Equal(utf16.Encode(runes), u) {
		return "", false
	}
	return string(runes), true
}

func TestP3_1_Bytes(t *testing.T) {
	for _, u := range [][]uint16{nil, {}} {
		if b, e := Bytes(u); len(b) > 0 || e != api.OK {
			t.Errorf("Bytes of nothing: %x, %d", b, e)
		}
	}
	for want, u := range map[string][]uint16{"hi": {104, 105}, "\xC3\xA9": {0xE9}, "\xF0\x9F\x98\x80": {0xD83D, 0xDE00}, "a😀é": {0x61, 0xD83D, 0xDE00, 0xE9}, "\xF4\x8F\xBF\xBF\xF0\x90\x80\x80": {0xDBFF, 0xDFFF, 0xD800, 0xDC00}} {
		if b, e := Bytes(u); string(b) != want || e != api.OK {
			t.Errorf("Bytes(%X) = %x, %d", u, b, e)
		}
	}
	for _, u := range [][]uint16{{0xD83D}, {0xDE00}, {0xDE00, 0xD83D}, {0xD83D, 0x61}, {0xD83D, 0xD83D, 0xDE00}, {0xD83D, 0xDE00, 0xDE00}, {0x61, 0xD83D}, {0xD83D, 0xDE00, 0xD83D}} {
		if b, e := Bytes(u); len(b) > 0 || e != api.ErrForm {
			t.Errorf("Bytes(%X) = %x, %d", u, b, e)
		}
	}
	// Only the pair makes a character, not what stands behind the length.
	if b, e := Bytes([]uint16{0xD83D, 0xDE00}[:1]); len(b) > 0 || e != api.ErrForm {
		t.Errorf("Bytes of a part: %x, %d", b, e)
	}
	// Bytes has no limit of its own.
	long := slices.Repeat([]uint16{0xFFFF}, 3*most)
	if b, e := Bytes(long); string(b) != strings.Repeat("\uFFFF", 3*most) || e != api.OK {
		t.Errorf("Bytes of %d units: %d bytes, %d", len(long), len(b), e)
	}
}

func TestP3_2_Ascii(t *testing.T) {
	all, units := "", []uint16{}
	for n := range 256 {
		all += string([]byte{byte(n)})
		units = append(units, uint16(n))
	}
	for s, want := range map[string][]uint16{"": nil, "hi": {104, 105}, "a\xFF": {97, 255}, "é": {0xC3, 0xA9}, "\x00": {0}, "\xED\xA0\x80": {0xED, 0xA0, 0x80}, all: units} {
		if got := Ascii(s); !slices.Equal(got, want) {
			t.Errorf("Ascii(%q) = %X", s, got)
		}
	}
	if got := Ascii(strings.Repeat("a", 2*most)); len(got) != 2*most {
		t.Errorf("Ascii of %d bytes: %d units", 2*most, len(got))
	}
}

func TestP3_2_Plain(t *testing.T) {
	for n := range 1 << 16 {
		want := ""
		if n < 128 {
			want = "a" + string([]byte{byte(n)}) + "z"
		}
		if s, ok := Plain([]uint16{'a', uint16(n), 'z'}); s != want || ok != (n < 128) {
			t.Errorf("Plain with %X: %q, %v", n, s, ok)
		}
	}
	for _, u := range [][]uint16{nil, {}} {
		if s, ok := Plain(u); s != "" || !ok {
			t.Errorf("Plain of nothing: %q, %v", s, ok)
		}
	}
	for _, u := range [][]uint16{{128}, {128, 104}, {104, 128}, {0x168}, {0xD83D, 0xDE00}} {
		if s, ok := Plain(u); s != "" || ok {
			t.Errorf("Plain(%X) = %q, %v", u, s, ok)
		}
	}
}

// ordered has different texts, each less than those behind it.
func ordered() [][]uint16 {
	return [][]uint16{nil, {0}, {0, 0}, {0, 0, 0}, {0, 5}, {0, 0xFFFF}, {1}, {0x61}, {0x61, 0x62}, {0x61, 0x62, 0}, {0x61, 0x63}, {0x7F}, {0x80}, {0xFF}, {0x100}, {0x161}, {0x7FFF}, {0x8000}, {0xD83D}, {0xD83D, 0xDE00}, {0xE000}, {0xFFFE, 0xFFFF}, {0xFFFF}, {0xFFFF, 0}}
}

func TestP3_2_LessAndSame(t *testing.T) {
	for i, a := range ordered() {
		for k, b := range ordered() {
			if Less(a, b) != (i < k) || Same(a, b) != (i == k) {
				t.Errorf("%X, %X: Less %v, Same %v", a, b, Less(a, b), Same(a, b))
			}
		}
	}
	if !Same(nil, []uint16{}) || !Same([]uint16{}, nil) || Less(nil, []uint16{}) || Less([]uint16{}, nil) {
		t.Error("nil and an empty list are not the same")
	}
	long := slices.Repeat([]uint16{7}, most)
	longer, other := append(slices.Clone(long), 0), append(slices.Clone(long[1:]), 8)
	if !Same(long, slices.Clone(long)) || Same(long, longer) || Same(long, other) {
		t.Error("Same of long texts")
	}
	if !Less(long, longer) || Less(longer, long) || !Less(longer, other) || Less(other, longer) {
		t.Error("Less of long texts")
	}
}

var (
	n0   = api.Num{Kind: api.NWhole}
	neg0 = api.Num{Kind: api.NNegZero}
	not  = api.Num{Kind: api.NNaN}
	inf  = api.Num{Kind: api.NInf}
	ninf = api.Num{Kind: api.NNegInf}
)

func whole(n int) api.Num { return api.Num{Kind: api.NWhole, N: n} }

func TestP3_3_Number(t *testing.T) {
	for s, want := range map[string]api.Num{
		"": n0, " ": n0, "\t\n\r ": n0, strings.Repeat(" ", 5000): n0,
		"0": n0, "+0": n0, "000": n0, "+00": n0, "-0": neg0, "-00": neg0, " -0\n": neg0, "-" + strings.Repeat("0", 400): neg0,
		"12": whole(12), " 12 ": whole(12), "\r\n\t12\t \n": whole(12), "+12": whole(12), "-12": whole(-12), "007": whole(7), "-007": whole(-7), "+0100": whole(100), "0123456789": whole(123456789),
		"9007199254740991": whole(api.MaxSafe), "-9007199254740991": whole(-api.MaxSafe), "+9007199254740991": whole(api.MaxSafe), strings.Repeat("0", 400) + "9007199254740991": whole(api.MaxSafe),
		"Infinity": inf, "+Infinity": inf, "-Infinity": ninf, " Infinity ": inf, "\t-Infinity\r\n": ninf,
	} {
		if a, ok := Number(Ascii(s)); a != want || !ok {
			t.Errorf("Number(%.40q) = %+v, %v", s, a, ok)
		}
	}
}

func TestP3_3_NumberLeavesTheSet(t *testing.T) {
	for _, s := range []string{
		"9007199254740992", "-9007199254740992", "+9007199254740992", "9007199254740993", "0009007199254740992", "9223372036854775807", "9223372036854775808", "-9223372036854775808", "18446744073709551616", "18446744073709551617", "36893488147419103239", strings.Repeat("9", 400), "-" + strings.Repeat("9", 5000), " 9007199254740992 ",
		"1.5", ".5", "5.", "0.0", "1.", "-1.5", "1e3", "1E3", "1e+3", "1e-3", "0x1F", "0X1f", "0x", "0b1", "0B1", "0o7", "0O7", "-0x1", "1_0", "1-", "1+1", "+-5", "--5", "++5", "-+5", "00x", "7f", "f7", "e5", "1a", "0..1", "\t1.5\n", " +1e5\n", "0123456789abcdefABCDEFxXoO.+-_",
	} {
		if a, ok := Number(Ascii(s)); a != not || ok {
			t.Errorf("Number(%.40q) = %+v, %v", s, a, ok)
		}
	}
}

func TestP3_3_NumberIsNone(t *testing.T) {
	for _, s := range []string{
		"x", "e", "abc", "+", "-", ".", "_", "+-", "n", "xX", "abcdefABCDEFxXoO.+-_", // no digit
		"1n", "12g", "1,5", "1:", "1/2", "@1", "`1", "1G", "1p3", "1 2", "1 .5", "- 1", "+\t1", "1\n2", "1\x002", "\x001", "\v1", "1\f", "\b1", "0y1", "5%", "(5)", "#1", "'1'", // a digit, and another unit
		"NaN", "infinity", "INFINITY", "Infinit", "Infinityy", "InfinityInfinity", "Infinity1", "1Infinity", "--Infinity", "+-Infinity", "+ Infinity", "Inf", "\vInfinity", "Infinity\x00", "hello",
		"\xA01", "1\xA0", "\xC3", "é1", "\xB2",
	} {
		if a, ok := Number(Ascii(s)); a != not || !ok {
			t.Errorf("Number(%q) = %+v, %v", s, a, ok)
		}
	}
	// These units end in the bits of a digit, of a blank, or of the sign, or are digits elsewhere.
	for _, u := range [][]uint16{{0x131}, {'1', 0x130}, {0x3031}, {0x2031, '1'}, {0x120, '1'}, {0x12D, '1'}, {'1', 0x660}, {0x661}, {0xFF11}, {0xFEFF, '1'}, {'1', 0x2028}, {0x2029, '1'}, {0xD83D}, {'1', 0xDE00}, {0x3000, '1'}, {0xFFFF}, {'1', '.', 0x135}} {
		if a, ok := Number(u); a != not || !ok {
			t.Errorf("Number(%X) = %+v, %v", u, a, ok)
		}
	}
}

var (
	outerBlanks = regexp.MustCompile(`^[ \t\n\r]+|[ \t\n\r]+$`)
	signedWhole = regexp.MustCompile(`^[+-]?[0-9]+$`)
	otherNumber = regexp.MustCompile(`^[0-9a-fA-FxXoO.+_-]*[0-9][0-9a-fA-FxXoO.+_-]*$`)
)

// numberOf reads a text by expressions and by integers of any size.
func numberOf(s string) (api.Num, bool) {
	s = outerBlanks.ReplaceAllString(s, "")
	switch {
	case s == "":
		return n0, true
	case s == "Infinity" || s == "+Infinity":
		return inf, true
	case s == "-Infinity":
		return ninf, true
	case !signedWhole.MatchString(s):
		return not, !otherNumber.MatchString(s)
	}
	n, _ := new(big.Int).SetString(s, 10)
	switch {
	case n.CmpAbs(big.NewInt(api.MaxSafe)) > 0:
		return not, false
	case n.Sign() == 0 && s[0] == '-':
		return neg0, true
	}
	return whole(int(n.Int64())), true
}

func TestP3_3_NumberOfAllShortTexts(t *testing.T) {
	parts := []string{"0", "9", "+", "-", ".", "x", "X", "o", "O", "_", "a", "f", "A", "F", "g", "G", "n", " ", "\t", "\n", "\r", "\v", "\x00", "\x7F", "Infinity", "9007199254740991"}
	check := func(s string) {
		want, wantOk := numberOf(s)
		if got, ok := Number(Ascii(s)); got != want || ok != wantOk {
			t.Errorf("Number(%q) = %+v, %v", s, got, ok)
		}
	}
	for _, a := range parts {
		check(a)
		for _, b := range parts {
			check(a + b)
			for _, c := range parts {
				check(a + b + c)
			}
		}
	}
	for n := range 128 {
		for _, form := range []string{"%", "%1", "1%", "1%1", "-%", "%-0", "%%"} {
			check(strings.ReplaceAll(form, "%", string([]byte{byte(n)})))
		}
	}
}

func TestP3_3_NumberOfWholes(t *testing.T) {
	r := rand.New(rand.NewSource(3))
	for range 20000 {
		n := r.Int63n(1<<55) >> r.Intn(55)
		s := strings.Repeat("0", r.Intn(3)) + strconv.FormatInt(n, 10)
		s = []string{"", "+", "-"}[r.Intn(3)] + s
		want, wantOk := numberOf(s)
		if got, ok := Number(Ascii(s)); got != want || ok != wantOk {
			t.Fatalf("Number(%q) = %+v, %v", s, got, ok)
		}
	}
}

const maxIndex = 1<<32 - 2

func TestP3_4_Key(t *testing.T) {
	good := []int{0, 1, 9, 10, 42, 100, 1<<16 - 1, 1 << 16, 1<<31 - 1, 1 << 31, 4294967199, maxIndex - 1, maxIndex}
	for n := range 1000 {
		good = append(good, n)
	}
	for _, n := range good {
		if got, ok := Key(Ascii(strconv.Itoa(n))); got != n || !ok {
			t.Errorf("Key(%d) = %d, %v", n, got, ok)
		}
	}
	for _, s := range []string{
		"", "00", "07", "007", "00000000001", "04294967294", "-0", "-1", "+0", "+1", " 1", "1 ", "1\n", " ", "1.0", "1e3", "1_0", "0x1", "1n", "a", "x1", "1a", "\x001", "1\x00", "length",
		"4294967295", "4294967296", "4294967297", "4294967300", "9999999999", "42949672940", "9007199254740991", "9007199254740992", "18446744073709551616", "18446744073709551617", strings.Repeat("9", 5000), strings.Repeat("0", 5000),
		"NaN", "Infinity", "-Infinity", "+Infinity", "-9007199254740991",
	} {
		if got, ok := Key(Ascii(s)); got != 0 || ok {
			t.Errorf("Key(%.40q) = %d, %v", s, got, ok)
		}
	}
	for _, u := range [][]uint16{{0x131}, {'1', 0x130}, {0x3031}, {0x661}, {0xFF11}, {'1', 0xD83D}, {0xFFFF}, {0xB2}} {
		if got, ok := Key(u); got != 0 || ok {
			t.Errorf("Key(%X) = %d, %v", u, got, ok)
		}
	}
}

// answers calls everything; the lists come one by one, so that they can be written over.
func answers(b []byte, u, v []uint16) (lists [][]uint16, raw []byte, others string) {
	units, at, e := Units(b)
	raw, f := Bytes(u)
	s, plain := Plain(u)
	a, ok := Number(u)
	key, is := Key(u)
	for _, n := range []int{at, int(e), int(f), a.Kind, a.N, key} {
		others += strconv.Itoa(n) + " "
	}
	for _, yes := range []bool{plain, ok, is, Less(u, v), Less(v, u), Same(u, v)} {
		others += strconv.FormatBool(yes) + " "
	}
	return [][]uint16{units, Ascii(s), Ascii(string(b))}, raw, others + s
}

func someTexts() []string {
	return []string{"", "a", "7", " 12 ", "-0", "1.5", "4294967294", "Infinity", "aé€😀z", "a\xFF", "\xED\xA0\x80", "\x00", strings.Repeat("é", 40)}
}

// roomy returns a copy of l as a part of a longer list, and that list.
func roomy[T byte | uint16](l []T) (part, all []T) {
	all = append(slices.Clone(l), 49, 50, 51, 52)
	return all[:len(l)], all
}

func fill[T byte | uint16](l []T) {
	l = l[:cap(l)]
	for i := range l {
		l[i] = 57
	}
}

func TestP3_5_ArgumentsStay(t *testing.T) {
	for _, x := range someTexts() {
		for _, y := range someTexts() {
			b, allB := roomy([]byte(x))
			u, allU := roomy(utf16.Encode([]rune(x)))
			v, allV := roomy(utf16.Encode([]rune(y)))
			wasB, wasU, wasV := slices.Clone(allB), slices.Clone(allU), slices.Clone(allV)
			lists, raw, others := answers(b, u, v)
			were, wasRaw, wasOthers := cloned(lists), slices.Clone(raw), strings.Clone(others)
			if !slices.Equal(allB, wasB) || !slices.Equal(allU, wasU) || !slices.Equal(allV, wasV) {
				t.Fatalf("%q, %q: an argument is changed", x, y)
			}
			fill(allB)
			fill(allU)
			fill(allV)
			if !slices.EqualFunc(lists, were, slices.Equal) || !slices.Equal(raw, wasRaw) || others != wasOthers {
				t.Fatalf("%q, %q: an argument is retained", x, y)
			}
		}
	}
}

func cloned(lists [][]uint16) [][]uint16 {
	out := [][]uint16{}
	for _, l := range lists {
		out = append(out, slices.Clone(l))
	}
	return out
}

func TestP3_5_ResultsAreNewMemory(t *testing.T) {
	for _, x := range someTexts() {
		b, allB := roomy([]byte(x))
		u, allU := roomy(utf16.Encode([]rune(x)))
		wasB, wasU := slices.Clone(allB), slices.Clone(allU)
		lists, raw, others := answers(b, u, u)
		again, rawAgain, _ := answers(b, u, u)
		were, wasRaw := cloned(lists), slices.Clone(raw)
		for i, l := range lists {
			fill(l)
			if !slices.EqualFunc(lists[i+1:], were[i+1:], slices.Equal) {
				t.Fatalf("%q: result %d shares memory with one behind it", x, i)
			}
		}
		fill(raw)
		if !slices.Equal(allB, wasB) || !slices.Equal(allU, wasU) {
			t.Fatalf("%q: a result shares memory with an argument", x)
		}
		anew, rawAnew, othersAnew := answers(b, u, u)
		if !slices.EqualFunc(again, were, slices.Equal) || !slices.EqualFunc(anew, were, slices.Equal) || !slices.Equal(rawAgain, wasRaw) || !slices.Equal(rawAnew, wasRaw) || others != othersAnew {
			t.Fatalf("%q: a result shares memory with a later one", x)
		}
	}
}

func TestP3_6_BytesOfUnits(t *testing.T) {
	check := func(b []byte) {
		u, _, e := Units(b)
		if e != api.OK {
			if utf8.Valid(b) {
				t.Fatalf("Units(%x): error %d", b, e)
			}
			return
		}
		if back, e := Bytes(u); !bytes.Equal(back, b) || e != api.OK {
			t.Fatalf("Bytes(Units(%x)) = %x, %d", b, back, e)
		}
	}
	eachCharacter(func(r rune) { check([]byte("a" + string(r))) })
	r := rand.New(rand.NewSource(4))
	for range 20000 {
		b := []byte{}
		for range r.Intn(6) {
			b = utf8.AppendRune(b, rune(r.Intn(0x110000)>>r.Intn(18)))
		}
		check(b)
		if len(b) > 0 {
			b[r.Intn(len(b))] ^= byte(1 << r.Intn(8))
			check(b)
		}
	}
}

func TestP3_6_UnitsOfBytes(t *testing.T) {
	r := rand.New(rand.NewSource(5))
	for range 20000 {
		u := make([]uint16, r.Intn(12))
		for i := range u {
			u[i] = []uint16{uint16(r.Intn(1 << 16)), uint16(r.Intn(128)), uint16(0xD800 + r.Intn(0x800))}[r.Intn(3)]
			if i > 0 && r.Intn(2) == 0 {
				u[i-1], u[i] = uint16(0xD800+r.Intn(0x400)), uint16(0xDC00+r.Intn(0x400))
			}
		}
		b, e := Bytes(u)
		if _, ok := encoded(u); ok != (e == api.OK) {
			t.Fatalf("Bytes(%X): error %d", u, e)
		}
		if e != api.OK {
			continue
		}
		if got := unitsOf(b); !got.is(result{units: u}) {
			t.Fatalf("Units(Bytes(%X)) = %+v", u, got)
		}
	}
	// Units whose bytes are too long, though they themselves are not.
	b, _ := Bytes(slices.Repeat([]uint16{0x20AC}, most/3+1))
	if got := unitsOf(b); !got.is(result{errno: api.ErrLong}) {
		t.Errorf("Units of %d bytes: %d units, %d, %d", len(b), len(got.units), got.at, got.errno)
	}
}

func TestP3_6_TotalOrder(t *testing.T) {
	texts := ordered()
	r := rand.New(rand.NewSource(6))
	for range 60 {
		u := make([]uint16, r.Intn(4))
		for i := range u {
			u[i] = []uint16{0, 1, 0xD800, 0xFFFF, uint16(r.Intn(1 << 16))}[r.Intn(5)]
		}
		texts = append(texts, u)
	}
	for _, a := range texts {
		for _, b := range texts {
			sure := 0
			for _, yes := range []bool{Less(a, b), Less(b, a), Same(a, b)} {
				if yes {
					sure++
				}
			}
			if sure != 1 || Same(a, b) != slices.Equal(a, b) {
				t.Fatalf("%X, %X: Less %v and %v, Same %v", a, b, Less(a, b), Less(b, a), Same(a, b))
			}
			for _, c := range texts {
				if Less(a, b) && Less(b, c) && !Less(a, c) {
					t.Fatalf("%X, %X, %X: Less is no order", a, b, c)
				}
			}
		}
	}
}
