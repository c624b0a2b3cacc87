package oper_test

import (
	"math"
	mathbig "math/big"
	"math/rand"
	"strings"
	"testing"

	"rendezvous/api"
	"rendezvous/big"
	"rendezvous/conv"
	"rendezvous/heap"
	"rendezvous/oper"
	"rendezvous/text"
)

// A second reading of the chapter: numbers by floats of 64 bits, in which each step
// is rounded as the language says, and BigInts by math/big.

func floatOf(a api.Num) float64 {
	switch a.Kind {
	case api.NNegZero:
		return math.Copysign(0, -1)
	case api.NNaN:
		return math.NaN()
	case api.NInf:
		return math.Inf(1)
	case api.NNegInf:
		return math.Inf(-1)
	}
	return float64(a.N)
}

// ofFloat returns a float as a number, or Exit. (A result that is rounded lies
// beyond MaxSafe too, and no quotient is rounded to a whole one.)
func ofFloat(f float64) answer {
	switch {
	case math.IsNaN(f):
		return answer{nan, conv.Ok}
	case math.IsInf(f, 1):
		return answer{infinite, conv.Ok}
	case math.IsInf(f, -1):
		return answer{below, conv.Ok}
	case f == 0 && math.Signbit(f):
		return answer{negZero, conv.Ok}
	case f != math.Trunc(f) || math.Abs(f) > safe:
		return answer{signal: conv.Exit}
	}
	return answer{whole(int(f)), conv.Ok}
}

func intOf(b api.Big) *mathbig.Int {
	x, _ := new(mathbig.Int).SetString(big.Text(b), 10)
	return x
}

func ofInt(x *mathbig.Int) answer {
	b, errno := big.Parse(x.String())
	if errno != api.OK {
		return answer{signal: conv.Exit}
	}
	return answer{heap.Value{Kind: 4, B: b}, conv.Ok}
}

func floatsBy(op string, a, b float64) answer {
	switch op {
	case "+":
		return ofFloat(a + b)
	case "-":
		return ofFloat(a - b)
	case "*":
		return ofFloat(a * b)
	case "/":
		return ofFloat(a / b)
	case "%":
		return ofFloat(math.Mod(a, b))
	}
	return wordsBy(op, wordOf(a), wordOf(b))
}

// wordOf is the word of 32 bits that a float is brought to.
func wordOf(f float64) *mathbig.Int {
	if math.IsNaN(f) || math.IsInf(f, 0) {
		return new(mathbig.Int)
	}
	x, _ := mathbig.NewFloat(f).Int(nil)
	return x.Mod(x, mathbig.NewInt(1<<32))
}

// withSign reads the low 32 bits of a whole number with a sign.
func withSign(x *mathbig.Int) *mathbig.Int {
	x = new(mathbig.Int).Mod(x, mathbig.NewInt(1<<32))
	if x.Bit(31) == 1 {
		x.Sub(x, mathbig.NewInt(1<<32))
	}
	return x
}

func wordsBy(op string, a, b *mathbig.Int) answer {
	out, shift := new(mathbig.Int), uint(b.Uint64()%32)
	switch op {
	case "&":
		out = withSign(out.And(a, b))
	case "|":
		out = withSign(out.Or(a, b))
	case "^":
		out = withSign(out.Xor(a, b))
	case "<<":
		out = withSign(out.Lsh(a, shift))
	case ">>":
		out.Rsh(withSign(a), shift)
	case ">>>":
		out.Rsh(a, shift)
	}
	return answer{whole(int(out.Int64())), conv.Ok}
}

func intsBy(op string, a, b *mathbig.Int) answer {
	out := new(mathbig.Int)
	switch op {
	case "+":
		return ofInt(out.Add(a, b))
	case "-":
		return ofInt(out.Sub(a, b))
	case "*":
		return ofInt(out.Mul(a, b))
	case ">>>":
		return answer{signal: conv.Type}
	case "/", "%":
		if b.Sign() == 0 {
			return answer{signal: conv.Range}
		}
		if op == "/" {
			return ofInt(out.Quo(a, b))
		}
		return ofInt(out.Rem(a, b))
	}
	return answer{signal: conv.Exit}
}

// ordered is a second reading of the four operators of the order.
func ordered(op string, a, b heap.Value) answer {
	switch {
	case max(a.Kind, b.Kind) == 6, a.Kind == 4 && b.Kind == 5, a.Kind == 5 && b.Kind == 4:
		return answer{signal: conv.Exit}
	case a.Kind == 5 && b.Kind == 5:
		return answer{truth(inOrder(op, compareUnits(a.S, b.S))), conv.Ok}
	}
	x, first := conv.Numeric(a)
	y, second := conv.Numeric(b)
	if first != conv.Ok || second != conv.Ok {
		return answer{signal: conv.Exit}
	}
	if x.N == nan.N || y.N == nan.N {
		return answer{no, conv.Ok}
	}
	return answer{truth(inOrder(op, exact(x).Cmp(exact(y)))), conv.Ok}
}

// inOrder tells by how two things compare whether they are in an order.
func inOrder(op string, c int) bool {
	switch op {
	case "<":
		return c < 0
	case ">":
		return c > 0
	case "<=":
		return c <= 0
	}
	return c >= 0
}

// compareUnits compares texts as strings of a greater alphabet are compared.
func compareUnits(a, b []uint16) int {
	spread := func(u []uint16) string {
		out := []byte{}
		for _, unit := range u {
			out = append(out, byte(unit>>8), byte(unit))
		}
		return string(out)
	}
	return strings.Compare(spread(a), spread(b))
}

// exact is a number other than NaN, or a BigInt, as a float that holds it exactly.
func exact(v heap.Value) *mathbig.Float {
	if v.Kind == 4 {
		return new(mathbig.Float).SetPrec(300).SetInt(intOf(v.B))
	}
	return new(mathbig.Float).SetFloat64(floatOf(v.N))
}

// joinedOf is a second reading of + where one of both is a text.
func joinedOf(a, b heap.Value) answer {
	first, signal := conv.Text(a)
	second, other := conv.Text(b)
	if signal != conv.Ok || other != conv.Ok || len(first)+len(second) > 4096 {
		return answer{signal: conv.Exit}
	}
	return answer{units(append(first, second...)...), conv.Ok}
}

func binaryBy(op string, a, b heap.Value) answer {
	switch op {
	case "<", ">", "<=", ">=":
		return ordered(op, a, b)
	case "===", "!==":
		return answer{truth(conv.Strict(a, b) == (op[0] == '=')), conv.Ok}
	case "==", "!=":
		is, signal := conv.Loose(a, b)
		if signal != conv.Ok {
			return answer{signal: signal}
		}
		return answer{truth(is == (op[0] == '=')), conv.Ok}
	}
	if op == "+" && (a.Kind == 5 || b.Kind == 5) {
		return joinedOf(a, b)
	}
	x, first := conv.Numeric(a)
	y, second := conv.Numeric(b)
	switch {
	case first != conv.Ok || second != conv.Ok:
		return answer{signal: conv.Exit}
	case x.Kind != y.Kind:
		return answer{signal: conv.Type}
	case x.Kind == 4:
		return intsBy(op, intOf(x.B), intOf(y.B))
	}
	return floatsBy(op, floatOf(x.N), floatOf(y.N))
}

func unaryBy(op string, v heap.Value) answer {
	if op == "!" {
		return answer{truth(!conv.Bool(v)), conv.Ok}
	}
	if op == "void" {
		return answer{undefined, conv.Ok}
	}
	x, signal := conv.Numeric(v)
	switch {
	case signal != conv.Ok:
		return answer{signal: signal}
	case op == "-" && x.Kind == 4:
		return ofInt(new(mathbig.Int).Neg(intOf(x.B)))
	case op == "+" && x.Kind == 4:
		return answer{signal: conv.Type}
	case op == "~" && x.Kind == 4:
		return answer{signal: conv.Exit}
	case op == "-":
		return ofFloat(-floatOf(x.N))
	case op == "+":
		return ofFloat(floatOf(x.N))
	}
	return ofFloat(-1 - floatOf(floatsBy("|", floatOf(x.N), 0).v.N))
}

func checkSecond(t *testing.T, op string, a, b heap.Value) {
	t.Helper()
	want := binaryBy(op, a, b)
	checkBinary(t, a, op, b, want.v, want.signal)
}

func TestP11_1_SecondReading(t *testing.T) {
	for _, v := range validValues() {
		for _, op := range unaryOps() {
			want := unaryBy(op, v)
			checkUnary(t, op, v, want.v, want.signal)
		}
	}
}

func TestP11_2_AllPairs(t *testing.T) {
	for _, a := range validValues() {
		for _, b := range validValues() {
			for _, op := range binaryOps() {
				checkSecond(t, op, a, b)
			}
		}
	}
}

// someValue is any value, mostly a numeric one, and often near an edge.
func someValue(r *rand.Rand) heap.Value {
	n := (r.Intn(2*safe+1) - safe) >> r.Intn(53)
	switch r.Intn(8) {
	case 0:
		return whole(r.Intn(9) - 4)
	case 1:
		return whole(1<<r.Intn(53) + r.Intn(3) - 1)
	case 2:
		return bigInt(n)
	case 3:
		return heap.Value{Kind: 4, B: someBig(r)}
	case 4:
		return str([]string{"", " ", "a", "1", "-0", "12 ", "1.5", "Infinity", "NaN"}[r.Intn(9)])
	case 5:
		return []heap.Value{undefined, null, no, yes, nan, negZero, infinite, below, object(3), bigInt(0)}[r.Intn(10)]
	}
	return whole(n)
}

// someBig has up to eight limbs, some of which are of ones or zeros.
func someBig(r *rand.Rand) api.Big {
	mag := []uint32{}
	for range r.Intn(8) {
		mag = append(mag, []uint32{0, 1<<32 - 1, r.Uint32()}[r.Intn(3)])
	}
	return api.Big{Neg: r.Intn(2) == 0, Mag: append(mag, uint32(math.MaxUint32)>>r.Intn(32))}
}

func TestP11_2_Random(t *testing.T) {
	r := rand.New(rand.NewSource(11))
	ops := binaryOps()
	for range 100000 {
		checkSecond(t, ops[r.Intn(len(ops))], someValue(r), someValue(r))
	}
	// Numbers whose product or quotient is just inside the set, or just outside.
	for range 20000 {
		b := r.Intn(1<<uint(1+r.Intn(52))) + 1
		a := safe / b * (1 - 2*r.Intn(2))
		for d := -1; d <= 1; d++ {
			checkSecond(t, "*", whole(a+d), whole(b))
			checkSecond(t, "/", whole(min(max(a*b+d, -safe), safe)), whole(b))
			checkSecond(t, "%", whole(min(max(a*b+d, -safe), safe)), whole(b))
		}
	}
}

// All answers are valid, also those of what is not valid.
func TestP11_5_Valid(t *testing.T) {
	list := validValues()
	for _, one := range invalidValues() {
		list = append(list, one.bad)
	}
	for i, a := range list {
		for j := i % 5; j < len(list); j += 5 {
			for k, one := range all(a, list[j]) {
				if !heap.May(one.v) {
					t.Errorf("%s, %s: answer %d is %s", short(a), short(list[j]), k, shown(one.v))
				}
			}
		}
	}
}

// mirrored are the operators that answer the same the other way round.
func mirrored() [][2]string {
	return [][2]string{{"<", ">"}, {">", "<"}, {"<=", ">="}, {">=", "<="}, {"==", "=="}, {"!=", "!="}, {"===", "==="}, {"!==", "!=="}}
}

func TestP11_5_Mirrored(t *testing.T) {
	list := append(validValues(), heap.Value{Kind: 9}, object(-1), whole(safe+1))
	for _, a := range list {
		for _, b := range list {
			for _, ops := range mirrored() {
				x, first := oper.Binary(ops[0], a, b)
				y, second := oper.Binary(ops[1], b, a)
				if !heap.Same(x, y) || first != second {
					t.Errorf("%s %s %s: %s, %d; the other way round %s, %d", short(a), ops[0], short(b), short(x), first, short(y), second)
				}
			}
		}
	}
}

// The examples of the chapter.
func TestExamples(t *testing.T) {
	checkAll(t, []binary{{units(text.Ascii("a")...), "+", whole(1), str("a1")}, {bigInt(1), "<", whole(2), yes}, {undefined, "<", whole(1), no}})
	checkStopped(t, []stopped{{bigInt(1), "+", whole(1), conv.Type}, {whole(1), "/", whole(2), conv.Exit}, {bigInt(1), "/", bigInt(0), conv.Range}})
	checkUnary(t, "-", whole(0), negZero, conv.Ok)
}
