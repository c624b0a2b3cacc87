package num

import (
	"math"
	"math/big"
	"math/rand"
	"strconv"
	"strings"
	"testing"

	"rendezvous/api"
)

const most = api.MaxSafe

var (
	n0   = api.Num{Kind: api.NWhole}
	neg0 = api.Num{Kind: api.NNegZero}
	not  = api.Num{Kind: api.NNaN}
	inf  = api.Num{Kind: api.NInf}
	ninf = api.Num{Kind: api.NNegInf}
)

func whole(n int) api.Num { return api.Num{Kind: api.NWhole, N: n} }

// validNums has the numbers at which the promises change what they say.
func validNums() []api.Num {
	l := []api.Num{neg0, not, inf, ninf, n0}
	for _, n := range []int{1, 2, 3, 5, 7, 12, 31, 32, 33, 64, 94906265, 94906266, 94906267, 1<<26 - 1, 1 << 26, 1<<27 - 1, 1 << 27, 1<<31 - 1, 1 << 31, 1<<31 + 1, 1<<32 - 1, 1 << 32, 1<<32 + 5, 3 << 32, 1<<52 - 1, 1 << 52, 1<<52 + 1, most - 1, most} {
		l = append(l, whole(n), whole(-n))
	}
	return l
}

func invalidNums() []api.Num {
	l := []api.Num{}
	for _, n := range []int{most + 1, -most - 1, math.MaxInt, math.MinInt} {
		l = append(l, whole(n))
	}
	for _, kind := range []int{api.NNegZero, api.NNaN, api.NInf, api.NNegInf} {
		for _, n := range []int{1, -1, math.MaxInt, math.MinInt} {
			l = append(l, api.Num{Kind: kind, N: n})
		}
	}
	for _, kind := range []int{5, -1, math.MaxInt, math.MinInt} {
		l = append(l, api.Num{Kind: kind}, api.Num{Kind: kind, N: 3})
	}
	return l
}

func isIn(a api.Num) bool {
	switch a.Kind {
	case api.NWhole:
		return a.N >= -most && a.N <= most
	case api.NNegZero, api.NNaN, api.NInf, api.NNegInf:
		return a.N == 0
	}
	return false
}

// asFloat is exact for every valid number.
func asFloat(a api.Num) float64 {
	switch a.Kind {
	case api.NNegZero:
		return math.Copysign(0, -1)
	case api.NNaN:
		return math.NaN()
	case api.NInf:
		return math.Inf(1)
	case api.NNegInf:
		return math.Inf(-1)
	}
	return float64(a.N)
}

// ofFloat reads the rounded result of one operation: rounding never brings a
// result from outside the set into it.
func ofFloat(f float64) (api.Num, bool) {
	switch {
	case math.IsNaN(f):
		return not, true
	case math.IsInf(f, 1):
		return inf, true
	case math.IsInf(f, -1):
		return ninf, true
	case f == 0 && math.Signbit(f):
		return neg0, true
	case f != math.Trunc(f) || math.Abs(f) > most:
		return not, false
	}
	return whole(int(f)), true
}

type sum struct {
	a, b, want api.Num
	ok         bool
}

func checkSums(t *testing.T, name string, call func(a, b api.Num) (api.Num, bool), rows []sum) {
	t.Helper()
	for _, r := range rows {
		if got, ok := call(r.a, r.b); got != r.want || ok != r.ok {
			t.Errorf("%s(%+v, %+v) = %+v, %v; want %+v, %v", name, r.a, r.b, got, ok, r.want, r.ok)
		}
	}
}

// checkPairs holds a call against floats for all pairs of numbers, and many more.
func checkPairs(t *testing.T, name string, call func(a, b api.Num) (api.Num, bool), float func(x, y float64) float64) {
	t.Helper()
	check := func(a, b api.Num) {
		want, wantOk := ofFloat(float(asFloat(a), asFloat(b)))
		if got, ok := call(a, b); got != want || ok != wantOk {
			t.Errorf("%s(%+v, %+v) = %+v, %v; want %+v, %v", name, a, b, got, ok, want, wantOk)
		}
	}
	for _, a := range validNums() {
		for _, b := range validNums() {
			check(a, b)
		}
	}
	r := rand.New(rand.NewSource(1))
	for range 20000 {
		check(randomWhole(r), randomWhole(r))
	}
}

func randomWhole(r *rand.Rand) api.Num {
	n := int(r.Int63n(1<<53)) >> r.Intn(53)
	if r.Intn(2) == 0 {
		n = -n
	}
	return whole(n)
}

func TestP1_1_May(t *testing.T) {
	for _, a := range validNums() {
		if !May(a) {
			t.Errorf("May(%+v) = false", a)
		}
	}
	for _, a := range invalidNums() {
		if May(a) {
			t.Errorf("May(%+v) = true", a)
		}
	}
}

func TestP1_1_Of(t *testing.T) {
	for _, n := range []int{0, 1, -1, 42, most - 1, most, -most} {
		if a, ok := Of(n); a != whole(n) || !ok {
			t.Errorf("Of(%d) = %+v, %v", n, a, ok)
		}
	}
	for _, n := range []int{most + 1, -most - 1, 1 << 60, math.MaxInt, math.MinInt, math.MinInt + 1} {
		if a, ok := Of(n); a != not || ok {
			t.Errorf("Of(%d) = %+v, %v", n, a, ok)
		}
	}
}

func TestP1_2_Add(t *testing.T) {
	checkSums(t, "Add", Add, []sum{
		{whole(2), whole(3), whole(5), true},
		{whole(2), whole(-5), whole(-3), true},
		{whole(5), whole(-5), n0, true},
		{neg0, neg0, neg0, true},
		{neg0, n0, n0, true},
		{neg0, whole(-4), whole(-4), true},
		{inf, ninf, not, true},
		{inf, inf, inf, true},
		{ninf, ninf, ninf, true},
		{inf, whole(-most), inf, true},
		{neg0, ninf, ninf, true},
		{not, inf, not, true},
		{not, not, not, true},
		{whole(most - 1), whole(1), whole(most), true},
		{whole(most), n0, whole(most), true},
		{whole(most), whole(1), not, false},
		{whole(-most), whole(-1), not, false},
		{whole(most), whole(most), not, false},
		{whole(-most), whole(-most), not, false},
		{whole(most), whole(-most), n0, true},
	})
	checkPairs(t, "Add", Add, func(x, y float64) float64 { return x + y })
}

func TestP1_2_Sub(t *testing.T) {
	checkSums(t, "Sub", Sub, []sum{
		{whole(3), whole(5), whole(-2), true},
		{n0, n0, n0, true},
		{neg0, n0, neg0, true},
		{n0, neg0, n0, true},
		{neg0, neg0, n0, true},
		{inf, inf, not, true},
		{ninf, ninf, not, true},
		{inf, ninf, inf, true},
		{whole(1), ninf, inf, true},
		{whole(1), inf, ninf, true},
		{whole(1), not, not, true},
		{whole(-most), whole(-most), n0, true},
		{whole(-most + 1), whole(1), whole(-most), true},
		{whole(-most), whole(1), not, false},
		{whole(most), whole(-1), not, false},
	})
	checkPairs(t, "Sub", Sub, func(x, y float64) float64 { return x - y })
}

func TestP1_2_Mul(t *testing.T) {
	checkSums(t, "Mul", Mul, []sum{
		{whole(6), whole(7), whole(42), true},
		{whole(-6), whole(7), whole(-42), true},
		{whole(-6), whole(-7), whole(42), true},
		{n0, whole(-3), neg0, true},
		{n0, whole(3), n0, true},
		{neg0, whole(-3), n0, true},
		{neg0, whole(3), neg0, true},
		{neg0, neg0, n0, true},
		{neg0, n0, neg0, true},
		{inf, n0, not, true},
		{neg0, ninf, not, true},
		{inf, ninf, ninf, true},
		{ninf, ninf, inf, true},
		{inf, whole(-2), ninf, true},
		{ninf, whole(-2), inf, true},
		{not, inf, not, true},
		{n0, not, not, true},
		{whole(most), whole(1), whole(most), true},
		{whole(most), whole(-1), whole(-most), true},
		{whole(6361), whole(69431 * 20394401), whole(most), true},
		{whole(-6361), whole(69431 * 20394401), whole(-most), true},
		{whole(1 << 26), whole(1 << 27), not, false},
		{whole(-1 << 26), whole(1 << 27), not, false},
		{whole(1 << 26), whole(1<<27 - 1), whole(1<<53 - 1<<26), true},
		{whole(94906265), whole(94906265), whole(9007199136250225), true},
		{whole(94906266), whole(94906266), not, false},
		// These products wrap round to small ints.
		{whole(1 << 32), whole(1 << 32), not, false},
		{whole(1<<32 + 1), whole(1 << 32), not, false},
		{whole(most), whole(most), not, false},
		{whole(-most), whole(-most), not, false},
	})
	checkPairs(t, "Mul", Mul, func(x, y float64) float64 { return x * y })
}

func TestP1_2_Div(t *testing.T) {
	checkSums(t, "Div", Div, []sum{
		{whole(42), whole(7), whole(6), true},
		{whole(-42), whole(7), whole(-6), true},
		{whole(-42), whole(-7), whole(6), true},
		{whole(7), whole(2), not, false},
		{whole(-7), whole(2), not, false},
		{whole(1), whole(most), not, false},
		{whole(most), whole(most - 1), not, false},
		{whole(most), whole(most), whole(1), true},
		{whole(most), whole(-1), whole(-most), true},
		{whole(1), neg0, ninf, true},
		{whole(1), n0, inf, true},
		{whole(-1), n0, ninf, true},
		{whole(-1), neg0, inf, true},
		{n0, n0, not, true},
		{neg0, n0, not, true},
		{n0, whole(5), n0, true},
		{n0, whole(-5), neg0, true},
		{neg0, whole(-5), n0, true},
		{inf, ninf, not, true},
		{inf, inf, not, true},
		{inf, n0, inf, true},
		{inf, neg0, ninf, true},
		{ninf, whole(3), ninf, true},
		{whole(3), ninf, neg0, true},
		{whole(-3), ninf, n0, true},
		{n0, ninf, neg0, true},
		{not, whole(1), not, true},
		{whole(1), not, not, true},
		{not, n0, not, true},
	})
	checkPairs(t, "Div", Div, func(x, y float64) float64 { return x / y })
}

func TestP1_3_Rem(t *testing.T) {
	rem := func(a, b api.Num) (api.Num, bool) { return Rem(a, b), true }
	checkSums(t, "Rem", rem, []sum{
		{whole(7), whole(3), whole(1), true},
		{whole(7), whole(-3), whole(1), true},
		{whole(-7), whole(3), whole(-1), true},
		{whole(-7), whole(-3), whole(-1), true},
		{whole(-4), whole(2), neg0, true},
		{whole(-4), whole(-2), neg0, true},
		{whole(4), whole(-2), n0, true},
		{whole(5), inf, whole(5), true},
		{whole(-5), ninf, whole(-5), true},
		{neg0, inf, neg0, true},
		{neg0, whole(3), neg0, true},
		{n0, whole(-3), n0, true},
		{inf, whole(3), not, true},
		{ninf, inf, not, true},
		{whole(3), n0, not, true},
		{whole(3), neg0, not, true},
		{n0, n0, not, true},
		{not, inf, not, true},
		{n0, not, not, true},
		{whole(most), whole(most - 1), whole(1), true},
		{whole(3), whole(most), whole(3), true},
	})
	checkPairs(t, "Rem", rem, math.Mod)
}

func TestP1_3_Neg(t *testing.T) {
	for a, want := range map[api.Num]api.Num{n0: neg0, neg0: n0, not: not, inf: ninf, ninf: inf, whole(4): whole(-4), whole(-4): whole(4), whole(most): whole(-most), whole(-most): whole(most)} {
		if got := Neg(a); got != want {
			t.Errorf("Neg(%+v) = %+v, want %+v", a, got, want)
		}
	}
}

func TestP1_4_Order(t *testing.T) {
	for _, a := range validNums() {
		for _, b := range validNums() {
			x, y := asFloat(a), asFloat(b)
			if got := Less(a, b); got != (x < y) {
				t.Errorf("Less(%+v, %+v) = %v", a, b, got)
			}
			if got := Equal(a, b); got != (x == y) {
				t.Errorf("Equal(%+v, %+v) = %v", a, b, got)
			}
			if got := Same(a, b); got != (a == b) {
				t.Errorf("Same(%+v, %+v) = %v", a, b, got)
			}
		}
	}
}

func TestP1_4_Edges(t *testing.T) {
	if Less(neg0, n0) || Less(n0, neg0) || !Less(neg0, whole(1)) || !Less(whole(-1), neg0) {
		t.Error("Less: zeros")
	}
	if !Less(ninf, whole(-most)) || !Less(whole(most), inf) || Less(inf, inf) || Less(inf, whole(most)) {
		t.Error("Less: infinities")
	}
	if Less(not, inf) || Less(ninf, not) || Less(not, not) {
		t.Error("Less: NaN")
	}
	if !Equal(neg0, n0) || Equal(not, not) || !Equal(inf, inf) || Equal(inf, ninf) || Equal(not, n0) {
		t.Error("Equal")
	}
	if Same(neg0, n0) || !Same(neg0, neg0) || !Same(not, not) || !Same(ninf, ninf) || Same(not, n0) {
		t.Error("Same")
	}
	for _, a := range invalidNums() {
		if !Same(a, not) || !Same(not, a) || !Same(a, a) {
			t.Errorf("Same: %+v is not NaN", a)
		}
		for _, b := range append(validNums(), a) {
			if Less(a, b) || Less(b, a) || Equal(a, b) || Equal(b, a) {
				t.Errorf("%+v has an order to %+v", a, b)
			}
		}
	}
}

// modWord works out Uint32 of a whole number with integers of any size.
func modWord(n int) *big.Int {
	return new(big.Int).Mod(big.NewInt(int64(n)), big.NewInt(1<<32))
}

func TestP1_5_Words(t *testing.T) {
	for a, want := range map[api.Num][2]int{
		n0: {0, 0}, neg0: {0, 0}, not: {0, 0}, inf: {0, 0}, ninf: {0, 0},
		whole(5): {5, 5}, whole(-1): {-1, 1<<32 - 1},
		whole(1<<31 - 1): {1<<31 - 1, 1<<31 - 1}, whole(1 << 31): {-1 << 31, 1 << 31}, whole(1<<31 + 1): {-1<<31 + 1, 1<<31 + 1},
		whole(-1 << 31): {-1 << 31, 1 << 31}, whole(-1<<31 - 1): {1<<31 - 1, 1<<31 - 1},
		whole(1<<32 - 1): {-1, 1<<32 - 1}, whole(1 << 32): {0, 0}, whole(-1 << 32): {0, 0}, whole(1<<32 + 5): {5, 5}, whole(-1<<32 - 5): {-5, 1<<32 - 5},
		whole(most): {-1, 1<<32 - 1}, whole(-most): {1, 1},
	} {
		if i, u := Int32(a), Uint32(a); i != want[0] || u != want[1] {
			t.Errorf("%+v: Int32 %d, Uint32 %d, want %v", a, i, u, want)
		}
	}
	for _, a := range validNums() {
		if a.Kind == api.NWhole && int64(Uint32(a)) != modWord(a.N).Int64() {
			t.Errorf("Uint32(%+v) = %d", a, Uint32(a))
		}
	}
	for _, a := range invalidNums() {
		if Int32(a) != 0 || Uint32(a) != 0 {
			t.Errorf("%+v: Int32 %d, Uint32 %d", a, Int32(a), Uint32(a))
		}
	}
}

func TestP1_5_Whole(t *testing.T) {
	for _, a := range validNums() {
		want := a
		if a == not || a == neg0 {
			want = n0
		}
		if got := Whole(a); got != want {
			t.Errorf("Whole(%+v) = %+v", a, got)
		}
	}
	for _, a := range invalidNums() {
		if got := Whole(a); got != n0 {
			t.Errorf("Whole(%+v) = %+v", a, got)
		}
	}
}

func TestP1_5_Index(t *testing.T) {
	for a, want := range map[api.Num]int{n0: 0, neg0: 0, not: 0, whole(1): 1, whole(most): most} {
		if i, ok := Index(a); i != want || !ok {
			t.Errorf("Index(%+v) = %d, %v", a, i, ok)
		}
	}
	for _, a := range []api.Num{inf, ninf, whole(-1), whole(-most)} {
		if i, ok := Index(a); i != 0 || ok {
			t.Errorf("Index(%+v) = %d, %v", a, i, ok)
		}
	}
	for _, a := range invalidNums() {
		if i, ok := Index(a); i != 0 || !ok {
			t.Errorf("Index(%+v) = %d, %v", a, i, ok)
		}
	}
}

// signedWord returns the integer from -2^31 to 2^31 - 1 that b differs from by a multiple of 2^32.
func signedWord(b *big.Int) int {
	n := int(new(big.Int).Mod(b, big.NewInt(1<<32)).Int64())
	if n >= 1<<31 {
		n -= 1 << 32
	}
	return n
}

// bitOf works out Bit of two whole numbers with integers of any size.
func bitOf(op, a, b int) int {
	x, y := modWord(a), modWord(b)
	s := uint(y.Int64() % 32)
	switch op {
	case 1:
		return signedWord(new(big.Int).And(x, y))
	case 2:
		return signedWord(new(big.Int).Or(x, y))
	case 3:
		return signedWord(new(big.Int).Xor(x, y))
	case 4:
		return signedWord(new(big.Int).Lsh(x, s))
	case 5:
		// Div rounds down where the divisor is above 0.
		return int(new(big.Int).Div(big.NewInt(int64(signedWord(x))), big.NewInt(1<<s)).Int64())
	}
	return int(new(big.Int).Rsh(x, s).Int64())
}

func TestP1_6_Bit(t *testing.T) {
	for _, r := range []struct {
		op   int
		a, b api.Num
		want int
	}{
		{1, whole(12), whole(10), 8},
		{2, whole(12), whole(10), 14},
		{3, whole(12), whole(10), 6},
		{1, whole(-1), whole(1 << 31), -1 << 31},
		{2, whole(1<<32 - 1), n0, -1},
		{3, whole(-1), whole(1<<31 - 1), -1 << 31},
		{4, whole(1), whole(33), 2},
		{4, whole(1), whole(31), -1 << 31},
		{4, whole(3), whole(31), -1 << 31},
		{4, whole(1), whole(32), 1},
		{4, whole(1), whole(-1), -1 << 31},
		{5, whole(-5), whole(1), -3},
		{5, whole(5), whole(1), 2},
		{5, whole(-1), whole(31), -1},
		{5, whole(1 << 31), whole(31), -1},
		{6, whole(-1), n0, 1<<32 - 1},
		{6, whole(-1), whole(31), 1},
		{6, whole(-1), whole(-1), 1},
		{6, whole(1 << 31), n0, 1 << 31},
		{2, inf, not, 0},
		{4, ninf, whole(3), 0},
		{6, whole(7), inf, 7},
		{5, whole(-7), neg0, -7},
	} {
		if got := Bit(r.op, r.a, r.b); got != whole(r.want) {
			t.Errorf("Bit(%d, %+v, %+v) = %+v, want %d", r.op, r.a, r.b, got, r.want)
		}
	}
}

func TestP1_6_BitPairs(t *testing.T) {
	plain := func(a api.Num) int {
		if a.Kind == api.NWhole && isIn(a) {
			return a.N
		}
		return 0
	}
	l := append(validNums(), invalidNums()...)
	for op := 1; op <= 6; op++ {
		for _, a := range l {
			for _, b := range l {
				if got, want := Bit(op, a, b), bitOf(op, plain(a), plain(b)); got != whole(want) {
					t.Errorf("Bit(%d, %+v, %+v) = %+v, want %d", op, a, b, got, want)
				}
			}
		}
	}
}

func TestP1_6_NoOp(t *testing.T) {
	for _, op := range []int{0, 7, -1, math.MaxInt, math.MinInt} {
		for _, a := range append(validNums(), invalidNums()...) {
			if got := Bit(op, a, whole(1)); got != not {
				t.Errorf("Bit(%d, %+v, 1) = %+v", op, a, got)
			}
		}
	}
}

func TestP1_7_Text(t *testing.T) {
	for a, want := range map[api.Num]string{n0: "0", neg0: "0", not: "NaN", inf: "Infinity", ninf: "-Infinity", whole(7): "7", whole(-17): "-17", whole(100): "100", whole(most): "9007199254740991", whole(-most): "-9007199254740991"} {
		if got := Text(a); got != want {
			t.Errorf("Text(%+v) = %q, want %q", a, got, want)
		}
	}
	for _, a := range invalidNums() {
		if got := Text(a); got != "NaN" {
			t.Errorf("Text(%+v) = %q", a, got)
		}
	}
}

func TestP1_7_Parse(t *testing.T) {
	for s, want := range map[string]api.Num{"0": n0, "NaN": not, "Infinity": inf, "-Infinity": ninf, "7": whole(7), "-17": whole(-17), "100": whole(100), "9007199254740991": whole(most), "-9007199254740991": whole(-most)} {
		if got, ok := Parse(s); got != want || !ok {
			t.Errorf("Parse(%q) = %+v, %v", s, got, ok)
		}
	}
	for _, s := range []string{
		"", "-", "+", "-0", "+0", "00", "007", "-07", "+1", "--1", "- 1", " 1", "1 ", "1\n", "\x001", "1.0", ".5", "1e3", "0x1", "0b1", "0o7", "1_0", "1n", "a", "١",
		"nan", "NAN", "-NaN", "+NaN", "NaN ", "infinity", "+Infinity", "--Infinity", "Inf", "-Inf",
		"9007199254740992", "-9007199254740992", "9223372036854775807", "9223372036854775808", "-9223372036854775808", "99999999999999999999999", strings.Repeat("9", 5000),
	} {
		if got, ok := Parse(s); got != not || ok {
			t.Errorf("Parse(%q) = %+v, %v", s, got, ok)
		}
	}
}

func TestP1_8_Orders(t *testing.T) {
	l := append(validNums(), invalidNums()...)
	for _, a := range l {
		for _, b := range l {
			x, xOk := Add(a, b)
			y, yOk := Add(b, a)
			if x != y || xOk != yOk {
				t.Errorf("Add: %+v, %+v", a, b)
			}
			x, xOk = Mul(a, b)
			y, yOk = Mul(b, a)
			if x != y || xOk != yOk {
				t.Errorf("Mul: %+v, %+v", a, b)
			}
		}
	}
}

func TestP1_8_Inverse(t *testing.T) {
	for _, a := range validNums() {
		for _, b := range validNums() {
			if a.Kind != api.NWhole || b.Kind != api.NWhole {
				continue
			}
			if c, ok := Add(a, b); ok {
				if d, is := Sub(c, b); d != a || !is {
					t.Errorf("Sub(Add(%+v, %+v), %+v) = %+v, %v", a, b, b, d, is)
				}
			}
			if c, ok := Sub(a, b); ok {
				if d, is := Add(c, b); d != a || !is {
					t.Errorf("Add(Sub(%+v, %+v), %+v) = %+v, %v", a, b, b, d, is)
				}
			}
		}
	}
}

func TestP1_8_ParseOfText(t *testing.T) {
	for _, a := range validNums() {
		want := a
		if a == neg0 {
			want = n0
		}
		if got, ok := Parse(Text(a)); got != want || !ok {
			t.Errorf("Parse(Text(%+v)) = %+v, %v", a, got, ok)
		}
	}
	for n := -1000; n <= 1000; n++ {
		if got, ok := Parse(Text(whole(n))); got != whole(n) || !ok || Text(whole(n)) != strconv.Itoa(n) {
			t.Errorf("Parse(Text(%d)) = %+v, %v", n, got, ok)
		}
	}
}

func TestP1_8_ResultsAreValid(t *testing.T) {
	l := append(validNums(), invalidNums()...)
	for _, a := range l {
		for name, x := range map[string]api.Num{"Neg": Neg(a), "Whole": Whole(a)} {
			if !isIn(x) {
				t.Errorf("%s(%+v) = %+v", name, a, x)
			}
		}
		for _, b := range l {
			checkValidResults(t, a, b)
		}
	}
}

func checkValidResults(t *testing.T, a, b api.Num) {
	t.Helper()
	for i, call := range []func(a, b api.Num) (api.Num, bool){Add, Sub, Mul, Div} {
		if x, ok := call(a, b); !isIn(x) || !ok && x != not {
			t.Errorf("call %d of %+v, %+v = %+v, %v", i, a, b, x, ok)
		}
	}
	if x := Rem(a, b); !isIn(x) {
		t.Errorf("Rem(%+v, %+v) = %+v", a, b, x)
	}
	for op := range 8 {
		if x := Bit(op, a, b); !isIn(x) {
			t.Errorf("Bit(%d, %+v, %+v) = %+v", op, a, b, x)
		}
	}
}

// Every call treats a number that is not valid like NaN (the definitions of the chapter).
func TestInvalidIsNaN(t *testing.T) {
	for _, bad := range invalidNums() {
		for i, call := range []func(a api.Num) api.Num{Neg, Whole} {
			if call(bad) != call(not) {
				t.Errorf("call %d of %+v", i, bad)
			}
		}
		for _, b := range append(validNums(), invalidNums()...) {
			for i, call := range []func(a, b api.Num) (api.Num, bool){Add, Sub, Mul, Div} {
				x, xOk := call(bad, b)
				y, yOk := call(b, bad)
				if x != not || !xOk || y != not || !yOk {
					t.Errorf("call %d of %+v, %+v: %+v, %v; %+v, %v", i, bad, b, x, xOk, y, yOk)
				}
			}
			if Rem(bad, b) != not || Rem(b, bad) != not {
				t.Errorf("Rem: %+v, %+v", bad, b)
			}
		}
	}
}
