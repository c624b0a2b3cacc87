package big

import (
	"math"
	std "math/big"
	"math/rand"
	"slices"
	"strings"
	"testing"

	"rendezvous/api"
)

// highest is 2^256 - 1, the greatest number of MaxLimbs limbs.
const highest = "115792089237316195423570985008687907853269984665640564039457584007913129639935"

const full = math.MaxUint32

func plus(mag ...uint32) api.Big  { return api.Big{Mag: mag} }
func minus(mag ...uint32) api.Big { return api.Big{Neg: true, Mag: mag} }

// top is 2^256 - 1.
func top() api.Big { return plus(full, full, full, full, full, full, full, full) }

// alike holds results limb by limb, so that it also tells one that is not valid.
func alike(a, b api.Big) bool {
	return a.Neg == b.Neg && slices.Equal(a.Mag, b.Mag)
}

func isNought(a api.Big) bool { return alike(a, api.Big{}) }

// show is not Text, which is what is tested.
func show(a api.Big) string {
	text := value(a).String()
	if !isIn(a) {
		text += " (not valid)"
	}
	return text
}

func isIn(a api.Big) bool {
	if len(a.Mag) == 0 {
		return !a.Neg
	}
	return len(a.Mag) <= 8 && a.Mag[len(a.Mag)-1] != 0
}

// value reads the limbs by the library's integers of any size.
func value(a api.Big) *std.Int {
	n := new(std.Int)
	for i := len(a.Mag) - 1; i >= 0; i-- {
		n.Lsh(n, 32).Or(n, std.NewInt(int64(a.Mag[i])))
	}
	if a.Neg {
		n.Neg(n)
	}
	return n
}

// bigOf returns the BigInt of n, and whether it is short enough.
func bigOf(n *std.Int) (api.Big, bool) {
	if n.BitLen() > 256 {
		return api.Big{}, false
	}
	a := api.Big{Neg: n.Sign() < 0}
	for rest := new(std.Int).Abs(n); rest.Sign() > 0; rest.Rsh(rest, 32) {
		a.Mag = append(a.Mag, uint32(rest.Uint64()))
	}
	return a, true
}

func number(t *testing.T, s string) api.Big {
	t.Helper()
	n, ok := new(std.Int).SetString(s, 10)
	if !ok {
		t.Fatalf("%q is no number", s)
	}
	a, ok := bigOf(n)
	if !ok {
		t.Fatalf("%q is too long", s)
	}
	return a
}

// validBigs has zero, the numbers beside the powers of two at the limbs' ends,
// powers of ten, and limbs of ones and zeros, with both signs.
func validBigs() []api.Big {
	sizes := []api.Big{plus(2), plus(3), plus(7), plus(10), plus(0x80000000, 0x7fffffff), plus(full, 0, full), plus(0, full, 0, full),
		plus(1, 0, 0, 0, 0, 0, 0, 1), plus(0, 0, 0, 0, 0, 0, 0, full), plus(full, full, full, full, full, full, full, 1), plus(0, 0, 0x80000000, 0x7fffffff), plus(1, 0, 0x80000000), top()}
	one := std.NewInt(1)
	for _, k := range []uint{0, 8, 31, 32, 33, 63, 64, 96, 127, 128, 129, 160, 192, 223, 224, 225, 255} {
		n := new(std.Int).Lsh(one, k)
		for _, m := range []*std.Int{new(std.Int).Sub(n, one), n, new(std.Int).Add(n, one)} {
			a, _ := bigOf(m)
			sizes = append(sizes, a)
		}
	}
	for _, k := range []int64{9, 10, 19, 20, 38, 77} {
		a, _ := bigOf(new(std.Int).Exp(std.NewInt(10), std.NewInt(k), nil))
		sizes = append(sizes, a)
	}
	all := []api.Big{{}, {Mag: []uint32{}}}
	for _, a := range sizes {
		if len(a.Mag) > 0 {
			all = append(all, a, minus(a.Mag...))
		}
	}
	return all
}

func invalidBigs() []api.Big {
	return []api.Big{minus(), {Neg: true, Mag: []uint32{}}, plus(0), minus(0), plus(5, 0), minus(5, 0), plus(0, 0, 0), plus(1, 2, 3, 4, 5, 6, 7, 0),
		plus(1, 1, 1, 1, 1, 1, 1, 1, 1), minus(0, 0, 0, 0, 0, 0, 0, 0, 1), plus(1, 1, 1, 1, 1, 1, 1, 1, 0), plus(append(make([]uint32, 1000), 7)...)}
}

// randomBig draws limbs among which ones and zeros are frequent.
func randomBig(r *rand.Rand) api.Big {
	mag := []uint32{}
	for range r.Intn(9) {
		mag = append(mag, []uint32{r.Uint32(), r.Uint32(), 0, full, 1, full - 1, 1 << 31}[r.Intn(7)])
	}
	for len(mag) > 0 && mag[len(mag)-1] == 0 {
		mag = mag[:len(mag)-1]
	}
	return api.Big{Neg: len(mag) > 0 && r.Intn(2) == 0, Mag: mag}
}

// eachPair calls check for all pairs of edges, and for many random ones.
func eachPair(check func(a, b api.Big)) {
	for _, a := range validBigs() {
		for _, b := range validBigs() {
			check(a, b)
		}
	}
	r := rand.New(rand.NewSource(1))
	for range 20000 {
		check(randomBig(r), randomBig(r))
	}
}

// eachBig calls check for all edges, and for many random ones.
func eachBig(check func(a api.Big)) {
	for _, a := range validBigs() {
		check(a)
	}
	r := rand.New(rand.NewSource(2))
	for range 2000 {
		check(randomBig(r))
	}
}

func TestP2_1_May(t *testing.T) {
	eachBig(func(a api.Big) {
		if !May(a) {
			t.Errorf("May(%+v) = false", a)
		}
	})
	for _, a := range invalidBigs() {
		if May(a) {
			t.Errorf("May(%+v) = true", a)
		}
	}
}

func TestP2_1_Of(t *testing.T) {
	edges := []int{0, 1, -1, 42, -42, math.MaxInt, math.MaxInt - 1, math.MinInt, math.MinInt + 1}
	for k := range 63 {
		edges = append(edges, 1<<k, 1<<k-1, 1<<k+1, -1<<k, -1<<k-1, -1<<k+1)
	}
	for _, n := range edges {
		if want, _ := bigOf(std.NewInt(int64(n))); !alike(Of(n), want) {
			t.Errorf("Of(%d) = %+v", n, Of(n))
		}
	}
}

func TestP2_1_CmpAndSame(t *testing.T) {
	eachPair(func(a, b api.Big) {
		want := value(a).Cmp(value(b))
		if got := Cmp(a, b); got != want {
			t.Errorf("Cmp(%s, %s) = %d", show(a), show(b), got)
		}
		if got := Same(a, b); got != (want == 0) {
			t.Errorf("Same(%s, %s) = %v", show(a), show(b), got)
		}
	})
	eachBig(func(a api.Big) {
		copied := api.Big{Neg: a.Neg, Mag: slices.Clone(a.Mag)}
		if !Same(a, copied) || Cmp(a, copied) != 0 {
			t.Errorf("%s is not the same as itself", show(a))
		}
	})
}

func TestP2_1_Neg(t *testing.T) {
	eachBig(func(a api.Big) {
		if want, _ := bigOf(new(std.Int).Neg(value(a))); !alike(Neg(a), want) {
			t.Errorf("Neg(%s) = %+v", show(a), Neg(a))
		}
	})
}

type row struct {
	a, b, want string
	ok         bool
}

// checkRows holds a call against results that are written out.
func checkRows(t *testing.T, name string, call func(a, b api.Big) (api.Big, bool), rows []row) {
	t.Helper()
	for _, r := range rows {
		got, ok := call(number(t, r.a), number(t, r.b))
		if !alike(got, number(t, r.want)) || ok != r.ok {
			t.Errorf("%s(%s, %s) = %s, %v", name, r.a, r.b, show(got), ok)
		}
	}
}

// checkPairs holds a call against the library's integers of any size.
func checkPairs(t *testing.T, name string, call func(a, b api.Big) (api.Big, bool), exact func(z, x, y *std.Int) *std.Int) {
	t.Helper()
	eachPair(func(a, b api.Big) {
		want, wantOk := bigOf(exact(new(std.Int), value(a), value(b)))
		if got, ok := call(a, b); !alike(got, want) || ok != wantOk {
			t.Errorf("%s(%s, %s) = %s, %v", name, show(a), show(b), show(got), ok)
		}
	})
}

func TestP2_2_Add(t *testing.T) {
	checkRows(t, "Add", Add, []row{
		{"0", "0", "0", true},
		{"2", "3", "5", true},
		{"5", "-7", "-2", true},
		{"-5", "-7", "-12", true},
		{"7", "-7", "0", true},
		{"4294967295", "1", "4294967296", true},
		{"340282366920938463463374607431768211455", "1", "340282366920938463463374607431768211456", true},
		{highest, "0", highest, true},
		{highest, "1", "0", false},
		{highest, "-" + highest, "0", true},
		{"-" + highest, "-1", "0", false},
		{highest, highest, "0", false},
	})
	checkPairs(t, "Add", Add, (*std.Int).Add)
}

func TestP2_2_Sub(t *testing.T) {
	checkRows(t, "Sub", Sub, []row{
		{"0", "0", "0", true},
		{"0", "3", "-3", true},
		{"5", "7", "-2", true},
		{"5", "-7", "12", true},
		{"-5", "-5", "0", true},
		{"4294967296", "1", "4294967295", true},
		{"340282366920938463463374607431768211456", "1", "340282366920938463463374607431768211455", true},
		{"-" + highest, "1", "0", false},
		{highest, "-1", "0", false},
		{"0", highest, "-" + highest, true},
	})
	checkPairs(t, "Sub", Sub, (*std.Int).Sub)
}

func TestP2_2_Mul(t *testing.T) {
	checkRows(t, "Mul", Mul, []row{
		{"0", "0", "0", true},
		{"-3", "0", "0", true},
		{"0", "-3", "0", true},
		{"-3", "4", "-12", true},
		{"-3", "-4", "12", true},
		{"18446744073709551615", "18446744073709551615", "340282366920938463426481119284349108225", true},
		{"340282366920938463463374607431768211455", "340282366920938463463374607431768211457", highest, true},
		{"340282366920938463463374607431768211456", "340282366920938463463374607431768211456", "0", false},
		{"340282366920938463463374607431768211456", "-340282366920938463463374607431768211456", "0", false},
		{highest, "-1", "-" + highest, true},
		{highest, "2", "0", false},
		{highest, highest, "0", false},
		{highest, "0", "0", true},
	})
	checkPairs(t, "Mul", Mul, (*std.Int).Mul)
}

func TestP2_2_DivAndRem(t *testing.T) {
	for _, r := range [][4]string{
		{"-7", "2", "-3", "-1"},
		{"7", "-2", "-3", "1"},
		{"-7", "-2", "3", "-1"},
		{"7", "2", "3", "1"},
		{"0", "-5", "0", "0"},
		{"-6", "3", "-2", "0"},
		{"-3", "9", "0", "-3"},
		{"3", "-9", "0", "3"},
		{highest, "1", highest, "0"},
		{highest, highest, "1", "0"},
		{"-" + highest, highest, "-1", "0"},
		{highest, "4294967296", "26959946667150639794667015087019630673637144422540572481103610249215", "4294967295"},
		{highest, "57896044618658097711785492504343953926634992332820282019728792003956564819968", "1", "57896044618658097711785492504343953926634992332820282019728792003956564819967"},
	} {
		a, b := number(t, r[0]), number(t, r[1])
		q, e := Div(a, b)
		m, f := Rem(a, b)
		if !alike(q, number(t, r[2])) || !alike(m, number(t, r[3])) || e != api.OK || f != api.OK {
			t.Errorf("%s by %s: %s, %s; errors %d, %d", r[0], r[1], show(q), show(m), e, f)
		}
	}
}

func TestP2_2_DivAndRemPairs(t *testing.T) {
	eachPair(func(a, b api.Big) {
		if len(b.Mag) == 0 {
			return
		}
		x, y := new(std.Int).QuoRem(value(a), value(b), new(std.Int))
		wantQ, _ := bigOf(x)
		wantM, _ := bigOf(y)
		q, e := Div(a, b)
		m, f := Rem(a, b)
		if !alike(q, wantQ) || !alike(m, wantM) || e != api.OK || f != api.OK {
			t.Errorf("%s by %s: %s, %s; errors %d, %d", show(a), show(b), show(q), show(m), e, f)
		}
	})
}

func TestP2_2_DivisionByZero(t *testing.T) {
	zeros := append([]api.Big{{}, {Mag: []uint32{}}}, invalidBigs()...)
	for _, b := range zeros {
		for _, a := range append([]api.Big{plus(5), minus(5), top()}, zeros...) {
			q, e := Div(a, b)
			m, f := Rem(a, b)
			if !isNought(q) || !isNought(m) || e != api.ErrZero || f != api.ErrZero {
				t.Errorf("%+v by %+v: %s, %s; errors %d, %d", a, b, show(q), show(m), e, f)
			}
		}
	}
}

// cutOf returns what AsUint and AsInt promise, by integers of any size.
func cutOf(bits int, a api.Big) (unsigned, signed api.Big) {
	modulus := new(std.Int).Lsh(std.NewInt(1), uint(bits))
	// Mod of the library is never negative.
	n := new(std.Int).Mod(value(a), modulus)
	unsigned, _ = bigOf(n)
	if bits > 0 && n.Bit(bits-1) == 1 {
		n.Sub(n, modulus)
	}
	signed, _ = bigOf(n)
	return unsigned, signed
}

func checkCut(t *testing.T, bits int, a, unsigned, signed api.Big) {
	t.Helper()
	u, e := AsUint(bits, a)
	s, f := AsInt(bits, a)
	if !alike(u, unsigned) || e != api.OK {
		t.Errorf("AsUint(%d, %s) = %s, %d", bits, show(a), show(u), e)
	}
	if !alike(s, signed) || f != api.OK {
		t.Errorf("AsInt(%d, %s) = %s, %d", bits, show(a), show(s), f)
	}
}

func TestP2_3_Cuts(t *testing.T) {
	for _, r := range []struct {
		bits                int
		a, unsigned, signed string
	}{
		{8, "200", "200", "-56"},
		{8, "-1", "255", "-1"},
		{8, "127", "127", "127"},
		{8, "128", "128", "-128"},
		{8, "-128", "128", "-128"},
		{8, "-129", "127", "127"},
		{8, "256", "0", "0"},
		{8, "-256", "0", "0"},
		{0, "5", "0", "0"},
		{0, "-5", "0", "0"},
		{1, "1", "1", "-1"},
		{1, "-2", "0", "0"},
		{32, "4294967297", "1", "1"},
		{33, "4294967296", "4294967296", "-4294967296"},
		{64, "9223372036854775808", "9223372036854775808", "-9223372036854775808"},
		{256, "-1", highest, "-1"},
		{256, highest, highest, "-1"},
		{256, "-" + highest, "1", "1"},
		{256, "57896044618658097711785492504343953926634992332820282019728792003956564819968", "57896044618658097711785492504343953926634992332820282019728792003956564819968", "-57896044618658097711785492504343953926634992332820282019728792003956564819968"},
		{256, "57896044618658097711785492504343953926634992332820282019728792003956564819967", "57896044618658097711785492504343953926634992332820282019728792003956564819967", "57896044618658097711785492504343953926634992332820282019728792003956564819967"},
	} {
		checkCut(t, r.bits, number(t, r.a), number(t, r.unsigned), number(t, r.signed))
	}
}

func TestP2_3_CutsOfAllBits(t *testing.T) {
	for bits := range 257 {
		for _, a := range validBigs() {
			unsigned, signed := cutOf(bits, a)
			checkCut(t, bits, a, unsigned, signed)
		}
	}
	r := rand.New(rand.NewSource(3))
	for range 20000 {
		bits, a := r.Intn(257), randomBig(r)
		unsigned, signed := cutOf(bits, a)
		checkCut(t, bits, a, unsigned, signed)
	}
}

func TestP2_3_BitsOutOfRange(t *testing.T) {
	for _, bits := range []int{-1, -8, -256, 257, 258, 512, 1 << 32, math.MaxInt, math.MinInt} {
		for _, a := range append([]api.Big{{}, plus(5), minus(5), top()}, invalidBigs()...) {
			u, e := AsUint(bits, a)
			s, f := AsInt(bits, a)
			if !isNought(u) || !isNought(s) || e != api.ErrRange || f != api.ErrRange {
				t.Errorf("%d bits of %+v: %s, %d; %s, %d", bits, a, show(u), e, show(s), f)
			}
		}
	}
}

func TestP2_3_Word(t *testing.T) {
	for _, r := range []struct {
		a    api.Big
		want uint64
	}{
		{api.Big{}, 0},
		{plus(1), 1},
		{minus(1), math.MaxUint64},
		{plus(2, 1), 1<<32 + 2},
		{plus(full, full), math.MaxUint64},
		{minus(full, full), 1},
		{minus(0, 1<<31), 1 << 63},
		{plus(0, 0, 1), 0},
		{minus(0, 0, 1), 0},
		{top(), math.MaxUint64},
	} {
		if got := Word(r.a); got != r.want {
			t.Errorf("Word(%s) = %d", show(r.a), got)
		}
	}
	eachBig(func(a api.Big) {
		unsigned, _ := cutOf(64, a)
		if got := Word(a); got != value(unsigned).Uint64() {
			t.Errorf("Word(%s) = %d", show(a), got)
		}
	})
}

// eachWord calls check for the words at the ends of limbs and signs, and for random ones.
func eachWord(check func(w uint64)) {
	for k := range 64 {
		w := uint64(1) << k
		for _, near := range []uint64{w - 1, w, w + 1, -w, -w - 1} {
			check(near)
		}
	}
	r := rand.New(rand.NewSource(4))
	for range 5000 {
		check(r.Uint64() >> r.Intn(64))
	}
}

func TestP2_3_FromWord(t *testing.T) {
	for _, r := range []struct {
		w                uint64
		unsigned, signed string
	}{
		{0, "0", "0"},
		{5, "5", "5"},
		{1<<63 - 1, "9223372036854775807", "9223372036854775807"},
		{1 << 63, "9223372036854775808", "-9223372036854775808"},
		{math.MaxUint64, "18446744073709551615", "-1"},
		{math.MaxUint64 - math.MaxUint32, "18446744069414584320", "-4294967296"},
	} {
		if !alike(FromWord(r.w, false), number(t, r.unsigned)) || !alike(FromWord(r.w, true), number(t, r.signed)) {
			t.Errorf("FromWord(%d): %s, %s", r.w, show(FromWord(r.w, false)), show(FromWord(r.w, true)))
		}
	}
	eachWord(func(w uint64) {
		unsigned, _ := bigOf(new(std.Int).SetUint64(w))
		signed, _ := bigOf(std.NewInt(int64(w)))
		if !alike(FromWord(w, false), unsigned) || !alike(FromWord(w, true), signed) {
			t.Errorf("FromWord(%d): %s, %s", w, show(FromWord(w, false)), show(FromWord(w, true)))
		}
	})
}

func TestP2_4_Text(t *testing.T) {
	for want, a := range map[string]api.Big{
		"0": {}, "7": plus(7), "-7": minus(7), "10": plus(10), "4294967295": plus(full), "4294967296": plus(0, 1),
		"-18446744073709551616": minus(0, 0, 1), highest: top(), "-" + highest: Neg(top()),
	} {
		if got := Text(a); got != want {
			t.Errorf("Text = %q; want %q", got, want)
		}
	}
	eachBig(func(a api.Big) {
		if got := Text(a); got != value(a).String() {
			t.Errorf("Text(%s) = %q", show(a), got)
		}
	})
}

func TestP2_4_Parse(t *testing.T) {
	for _, s := range []string{"0", "1", "-1", "9", "10", "-10", "4294967295", "4294967296", "1" + strings.Repeat("0", 77), "-" + strings.Repeat("9", 77), highest, "-" + highest} {
		if a, e := Parse(s); !alike(a, number(t, s)) || e != api.OK {
			t.Errorf("Parse(%q) = %s, %d", s, show(a), e)
		}
	}
}

func TestP2_4_ParseWrongForm(t *testing.T) {
	long := strings.Repeat("9", 5000)
	wrong := []string{"", "-", "--", "-0", "--1", "+1", "+0", "00", "01", "-01", "-00", "000", "0x1", "1n", "1.0", "1e3", "1_000", "1,000", " 1", "1 ", "- 1", "1-", "1-1", "\n1", "1\x00", "\x001", "/", ":", "1/", "1:", "a", "٣", "1٣", "１", "\xff", "1\xff",
		"NaN", "Infinity", long + "x", "x" + long, "0" + long, "-0" + long, "+" + long, long + "-", long + " ", long[:2500] + "." + long[2500:], highest + "n"}
	for _, s := range wrong {
		if a, e := Parse(s); !isNought(a) || e != api.ErrForm {
			t.Errorf("Parse(%.20q) = %s, %d", s, show(a), e)
		}
	}
	for c := range 256 {
		if c >= '0' && c <= '9' {
			continue
		}
		for _, s := range []string{"1" + string([]byte{byte(c)}), "1" + string([]byte{byte(c)}) + "1"} {
			if a, e := Parse(s); !isNought(a) || e != api.ErrForm {
				t.Errorf("Parse(%q) = %s, %d", s, show(a), e)
			}
		}
	}
}

func TestP2_4_ParseTooLong(t *testing.T) {
	limit := new(std.Int).Lsh(std.NewInt(1), 256)
	for _, s := range []string{limit.String(), "-" + limit.String(), new(std.Int).Add(limit, std.NewInt(1)).String(), new(std.Int).Lsh(limit, 1).String(), new(std.Int).Lsh(limit, 32).String(), strings.Repeat("9", 78), "1" + strings.Repeat("0", 78), "-1" + strings.Repeat("0", 78), highest + "0", strings.Repeat("9", 5000), "-1" + strings.Repeat("0", 5000)} {
		if a, e := Parse(s); !isNought(a) || e != api.ErrLong {
			t.Errorf("Parse(%.90q) = %s, %d", s, show(a), e)
		}
	}
}

// results calls everything that returns a BigInt.
func results(a, b api.Big) []api.Big {
	all := []api.Big{Neg(a), Neg(b)}
	keep := func(x api.Big, ok bool) { all = append(all, x) }
	keepToo := func(x api.Big, e api.Errno) { all = append(all, x) }
	keep(Add(a, b))
	keep(Sub(a, b))
	keep(Mul(a, b))
	keepToo(Div(a, b))
	keepToo(Rem(a, b))
	for _, bits := range []int{-1, 0, 1, 31, 32, 33, 64, 100, 224, 255, 256, 257} {
		keepToo(AsUint(bits, a))
		keepToo(AsInt(bits, a))
	}
	keepToo(Parse(Text(a)))
	return append(all, Of(-5), FromWord(Word(a), true), FromWord(Word(b), false))
}

// roomy returns a with limbs behind its end, and all the memory below.
func roomy(a api.Big) (api.Big, []uint32) {
	whole := append(slices.Clone(a.Mag), 11, 22, 33, 44)
	return api.Big{Neg: a.Neg, Mag: whole[:len(a.Mag)]}, whole
}

func copies(list []api.Big) []api.Big {
	out := []api.Big{}
	for _, a := range list {
		out = append(out, api.Big{Neg: a.Neg, Mag: slices.Clone(a.Mag)})
	}
	return out
}

func someBigs() []api.Big {
	return []api.Big{{}, plus(1), minus(5), plus(0, 0, 1), minus(full, full), plus(1, 2, 3, 4, 5, 6, 7, 8), minus(0, 0, 0, 0, 0, 0, 0, 1), top(), Neg(top())}
}

func TestP2_5_ArgumentsStay(t *testing.T) {
	all := append(someBigs(), invalidBigs()...)
	for _, x := range all {
		for _, y := range all {
			a, wholeA := roomy(x)
			b, wholeB := roomy(y)
			wasA, wasB := slices.Clone(wholeA), slices.Clone(wholeB)
			list := results(a, b)
			May(a)
			Same(a, b)
			Cmp(a, b)
			were := copies(list)
			if !slices.Equal(wholeA, wasA) || !slices.Equal(wholeB, wasB) {
				t.Fatalf("%+v, %+v: an argument is changed", x, y)
			}
			for i := range wholeA {
				wholeA[i] = 77
			}
			for i := range wholeB {
				wholeB[i] = 77
			}
			if !slices.EqualFunc(list, were, alike) {
				t.Fatalf("%+v, %+v: an argument is retained", x, y)
			}
		}
	}
}

func TestP2_5_ResultsAreNewMemory(t *testing.T) {
	for _, x := range someBigs() {
		for _, y := range someBigs() {
			a, wholeA := roomy(x)
			b, wholeB := roomy(y)
			wasA, wasB := slices.Clone(wholeA), slices.Clone(wholeB)
			list, again := results(a, b), results(a, b)
			were := copies(list)
			for i, r := range list {
				// All that is below this result is written over; the ones behind it must not see that.
				room := r.Mag[:cap(r.Mag)]
				for k := range room {
					room[k] = 99
				}
				if !slices.EqualFunc(list[i+1:], were[i+1:], alike) {
					t.Fatalf("%+v, %+v: result %d shares memory with one behind it", x, y, i)
				}
			}
			if !slices.Equal(wholeA, wasA) || !slices.Equal(wholeB, wasB) {
				t.Fatalf("%+v, %+v: a result shares memory with an argument", x, y)
			}
			if !slices.EqualFunc(again, were, alike) || !slices.EqualFunc(results(a, b), were, alike) {
				t.Fatalf("%+v, %+v: a result shares memory with a later one", x, y)
			}
		}
	}
}

func TestP2_6_Orders(t *testing.T) {
	eachPair(func(a, b api.Big) {
		s, ok := Add(a, b)
		u, ok2 := Add(b, a)
		if !alike(s, u) || ok != ok2 {
			t.Errorf("Add of %s and %s depends on the order", show(a), show(b))
		}
		s, ok = Mul(a, b)
		u, ok2 = Mul(b, a)
		if !alike(s, u) || ok != ok2 {
			t.Errorf("Mul of %s and %s depends on the order", show(a), show(b))
		}
	})
}

func TestP2_6_Inverse(t *testing.T) {
	eachPair(func(a, b api.Big) {
		if s, ok := Add(a, b); ok {
			if d, ok := Sub(s, b); !ok || !alike(d, a) {
				t.Errorf("Sub(Add(%s, %s), ..) = %s, %v", show(a), show(b), show(d), ok)
			}
		}
		if d, ok := Sub(a, b); ok {
			if s, ok := Add(d, b); !ok || !alike(s, a) {
				t.Errorf("Add(Sub(%s, %s), ..) = %s, %v", show(a), show(b), show(s), ok)
			}
		}
	})
}

func TestP2_6_Division(t *testing.T) {
	eachPair(func(a, b api.Big) {
		if len(b.Mag) == 0 {
			return
		}
		q, _ := Div(a, b)
		m, _ := Rem(a, b)
		p, ok := Mul(b, q)
		s, ok2 := Add(p, m)
		if !ok || !ok2 || !alike(s, a) || Cmp(size(m), size(b)) >= 0 || len(m.Mag) > 0 && m.Neg != a.Neg {
			t.Errorf("%s by %s: %s, %s", show(a), show(b), show(q), show(m))
		}
	})
}

func size(a api.Big) api.Big { return api.Big{Mag: a.Mag} }

func TestP2_6_Cuts(t *testing.T) {
	r := rand.New(rand.NewSource(5))
	eachBig(func(a api.Big) {
		bits := r.Intn(257)
		u, _ := AsUint(bits, a)
		s, _ := AsInt(bits, a)
		ofS, _ := AsUint(bits, s)
		ofU, _ := AsInt(bits, u)
		if !alike(ofS, u) || !alike(ofU, s) {
			t.Errorf("%d bits of %s: %s, %s", bits, show(a), show(u), show(s))
		}
	})
}

func TestP2_6_ParseOfText(t *testing.T) {
	eachBig(func(a api.Big) {
		if got, e := Parse(Text(a)); !alike(got, a) || e != api.OK {
			t.Errorf("Parse(Text(%s)) = %s, %d", show(a), show(got), e)
		}
	})
}

func TestP2_6_WordOfFromWord(t *testing.T) {
	eachWord(func(w uint64) {
		if Word(FromWord(w, false)) != w || Word(FromWord(w, true)) != w {
			t.Errorf("Word of FromWord(%d): %d, %d", w, Word(FromWord(w, false)), Word(FromWord(w, true)))
		}
	})
}

// TestInvalidIsZero belongs to the definition of valid, which holds for all calls.
func TestInvalidIsZero(t *testing.T) {
	zero := api.Big{}
	for _, bad := range invalidBigs() {
		for _, a := range append(someBigs(), invalidBigs()...) {
			if !slices.EqualFunc(results(bad, a), results(zero, a), alike) || !slices.EqualFunc(results(a, bad), results(a, zero), alike) {
				t.Errorf("%+v with %+v: not as zero", bad, a)
			}
			if Cmp(bad, a) != Cmp(zero, a) || Cmp(a, bad) != Cmp(a, zero) || Same(bad, a) != Same(zero, a) || Same(a, bad) != Same(a, zero) {
				t.Errorf("%+v beside %+v: not as zero", bad, a)
			}
		}
		if Word(bad) != 0 || Text(bad) != "0" || !Same(bad, zero) || Cmp(bad, zero) != 0 || Cmp(bad, plus(1)) != -1 || Cmp(bad, minus(1)) != 1 {
			t.Errorf("%+v is not zero", bad)
		}
	}
}
