package elem

import (
	"bytes"
	"encoding/binary"
	"math"
	std "math/big"
	"math/rand"
	"slices"
	"testing"

	"rendezvous/api"
	"rendezvous/big"
	"rendezvous/num"
)

// layout tells of a kind what the chapter says of it.
type layout struct {
	kind, size  int
	signed, big bool
}

func layouts() []layout {
	return []layout{
		{api.EInt8, 1, true, false}, {api.EUint8, 1, false, false},
		{api.EInt16, 2, true, false}, {api.EUint16, 2, false, false},
		{api.EInt32, 4, true, false}, {api.EUint32, 4, false, false},
		{api.EBigInt64, 8, true, true}, {api.EBigUint64, 8, false, true},
	}
}

// strangers are no kinds; some of them end in the bits of one.
func strangers() []int {
	all := []int{math.MinInt, math.MinInt + 1, math.MinInt + 7, math.MaxInt, math.MaxInt - 7, 1<<8 + 1, 1<<16 + 3, 1<<32 + 1, 1<<32 + 7, 1<<32 + 8, -1<<32 + 5}
	for n := -300; n <= 0; n++ {
		all = append(all, n)
	}
	for n := 9; n <= 300; n++ {
		all = append(all, n)
	}
	return all
}

// someWords has the words beside the powers of two, patterns, and random words.
func someWords() []uint64 {
	all := []uint64{0, math.MaxUint64, 0x0102030405060708, 0xF0E0D0C0B0A09080, 0x8080808080808080, 0x7F7F7F7F7F7F7F7F, 0xAAAAAAAAAAAAAAAA, 0x5555555555555555}
	for k := range 64 {
		all = append(all, 1<<k-1, 1<<k, 1<<k+1, -(1 << k), -(1<<k)-1)
	}
	r := rand.New(rand.NewSource(1))
	for range 200 {
		all = append(all, r.Uint64(), r.Uint64()>>r.Intn(64))
	}
	return all
}

func ofWord(w uint64) *std.Int { return new(std.Int).SetUint64(w) }

func power(bits int) *std.Int { return new(std.Int).Lsh(std.NewInt(1), uint(bits)) }

// wordOf is the word of a size that differs from n by a multiple of 2^(8 * size).
func wordOf(size int, n *std.Int) uint64 {
	return new(std.Int).Mod(n, power(8*size)).Uint64()
}

// cutWord is the remainder of a word.
func cutWord(size int, w uint64) uint64 { return wordOf(size, ofWord(w)) }

// valueOf reads a word by integers of any size.
func valueOf(l layout, w uint64) *std.Int {
	n := ofWord(cutWord(l.size, w))
	if l.signed && n.Cmp(power(8*l.size-1)) >= 0 {
		n.Sub(n, power(8*l.size))
	}
	return n
}

func ofBig(a api.Big) *std.Int {
	n := new(std.Int)
	for i := len(a.Mag) - 1; i >= 0; i-- {
		n.Lsh(n, 32).Or(n, std.NewInt(int64(a.Mag[i])))
	}
	if a.Neg {
		n.Neg(n)
	}
	return n
}

func isNought(a api.Big) bool { return !a.Neg && len(a.Mag) == 0 }

func whole(n int) api.Num { return api.Num{Kind: api.NWhole, N: n} }

func TestP4_1_SizeAndIsBig(t *testing.T) {
	for _, l := range layouts() {
		if Size(l.kind) != l.size || IsBig(l.kind) != l.big {
			t.Errorf("kind %d: size %d, big %v", l.kind, Size(l.kind), IsBig(l.kind))
		}
	}
	for _, kind := range strangers() {
		if Size(kind) != 0 || IsBig(kind) {
			t.Errorf("no kind %d: size %d, big %v", kind, Size(kind), IsBig(kind))
		}
	}
}

func eightKinds() []int { return []int{1, 2, 3, 4, 5, 6, 7, 8} }

func TestP4_1_List(t *testing.T) {
	first, second := List(), List()
	if !slices.Equal(first, eightKinds()) {
		t.Fatalf("List() = %v", first)
	}
	for i := range first {
		first[i] = 77
	}
	first = append(first[:3], 1, 1, 1)
	_ = append(first, 2)
	if !slices.Equal(second, eightKinds()) || !slices.Equal(List(), eightKinds()) {
		t.Errorf("what is written into a list is in another one: %v, %v", second, List())
	}
	_ = append(second[:cap(second)], 5)
	if !slices.Equal(List(), eightKinds()) || !slices.Equal(slices.Collect(Kinds()), eightKinds()) {
		t.Errorf("what is appended to a list is in another one: %v", List())
	}
}

func TestP4_1_KindsUntilTheLoopEnds(t *testing.T) {
	kinds := Kinds()
	for n := 1; n <= 8; n++ {
		seen, calls := []int{}, 0
		for kind := range kinds {
			seen = append(seen, kind)
			if len(seen) == n {
				break
			}
		}
		if !slices.Equal(seen, eightKinds()[:n]) {
			t.Errorf("left at %d: %v", n, seen)
		}
		kinds(func(int) bool {
			calls++
			return calls < n
		})
		if calls != n {
			t.Errorf("called on after the loop ended at %d: %d calls", n, calls)
		}
	}
	// One that was left begins anew, and goes to the end if nothing ends the loop.
	for range 2 {
		if seen := slices.Collect(kinds); !slices.Equal(seen, eightKinds()) {
			t.Errorf("whole: %v", seen)
		}
	}
}

func TestP4_1_KindsInOneAnother(t *testing.T) {
	kinds, pairs := Kinds(), [][2]int{}
outer:
	for a := range kinds {
		for b := range kinds {
			switch {
			case a == 4:
				break outer
			case b > a:
				continue outer
			}
			pairs = append(pairs, [2]int{a, b})
		}
	}
	if !slices.Equal(pairs, [][2]int{{1, 1}, {2, 1}, {2, 2}, {3, 1}, {3, 2}, {3, 3}}) {
		t.Errorf("pairs: %v", pairs)
	}
}

func TestP4_2_Bytes(t *testing.T) {
	for _, l := range layouts() {
		for _, w := range someWords() {
			want := binary.LittleEndian.AppendUint64(nil, w)[:l.size]
			if got := Bytes(l.kind, w); !bytes.Equal(got, want) {
				t.Errorf("Bytes(%d, %x) = %x", l.kind, w, got)
			}
		}
	}
	for _, kind := range strangers() {
		if b := Bytes(kind, math.MaxUint64); len(b) > 0 {
			t.Errorf("Bytes(%d) = %x", kind, b)
		}
	}
	for _, c := range []struct {
		kind int
		w    uint64
		want []byte
	}{{api.EInt16, 258, []byte{2, 1}}, {api.EUint16, 0xABCD0102, []byte{2, 1}}, {api.EInt8, 0x1FF, []byte{255}}, {api.EUint32, 0x0A0B0C0D, []byte{13, 12, 11, 10}}, {api.EBigInt64, 1 << 63, []byte{0, 0, 0, 0, 0, 0, 0, 128}}} {
		if b := Bytes(c.kind, c.w); !bytes.Equal(b, c.want) {
			t.Errorf("Bytes(%d, %x) = %x", c.kind, c.w, b)
		}
	}
}

func TestP4_2_BytesAreNewMemory(t *testing.T) {
	for _, l := range layouts() {
		one, other := Bytes(l.kind, 0x0102030405060708), Bytes(l.kind, 0x0102030405060708)
		was := slices.Clone(other)
		for i := range one[:cap(one)] {
			one[:cap(one)][i] = 99
		}
		_ = append(one, 99)
		if !bytes.Equal(other, was) || !bytes.Equal(Bytes(l.kind, 0x0102030405060708), was) {
			t.Errorf("kind %d: what is written into bytes is in others", l.kind)
		}
	}
}

func TestP4_2_Word(t *testing.T) {
	for _, l := range layouts() {
		for _, w := range someWords() {
			b := binary.LittleEndian.AppendUint64(nil, w)
			was := slices.Clone(b)
			// Behind the length of the part there are further bytes, which do not count.
			if got, ok := Word(l.kind, b[:l.size]); got != cutWord(l.size, w) || !ok {
				t.Errorf("Word(%d, %x) = %x, %v", l.kind, b[:l.size], got, ok)
			}
			if !bytes.Equal(b, was) {
				t.Fatalf("Word(%d, %x): the bytes are changed to %x", l.kind, was, b)
			}
		}
	}
	if w, ok := Word(api.EUint8, []byte{7}); w != 7 || !ok {
		t.Errorf("Word of 7: %d, %v", w, ok)
	}
}

func TestP4_2_WordOfOtherBytes(t *testing.T) {
	nines := bytes.Repeat([]byte{9}, 300)
	check := func(kind int, b []byte) {
		if w, ok := Word(kind, b); w != 0 || ok {
			t.Errorf("Word(%d) of %d bytes: %x, %v", kind, len(b), w, ok)
		}
	}
	for _, l := range layouts() {
		for n := range 257 {
			if n != l.size {
				check(l.kind, nines[:n])
				check(l.kind, slices.Clone(nines[:n]))
			}
		}
		check(l.kind, nil)
	}
	for _, kind := range strangers() {
		check(kind, nil)
		check(kind, []byte{})
		for n := range 17 {
			check(kind, nines[:n])
		}
	}
}

func someWholes() []int {
	all := []int{0, 1, -1, 5, 300, -300, api.MaxSafe, -api.MaxSafe, api.MaxSafe - 1, 1 - api.MaxSafe}
	for k := range 53 {
		for _, d := range []int{-1, 0, 1} {
			all = append(all, 1<<k+d, -1<<k+d)
		}
	}
	r := rand.New(rand.NewSource(2))
	for range 500 {
		n := r.Intn(api.MaxSafe) >> r.Intn(53)
		all = append(all, n, -n)
	}
	return all
}

func TestP4_3_FromNum(t *testing.T) {
	for _, l := range layouts() {
		for _, n := range someWholes() {
			want := uint64(0)
			if !l.big {
				want = wordOf(l.size, std.NewInt(int64(n)))
			}
			if got := FromNum(l.kind, whole(n)); got != want {
				t.Errorf("FromNum(%d, %d) = %x", l.kind, n, got)
			}
		}
	}
	for _, kind := range strangers() {
		for _, n := range []int{5, -1, api.MaxSafe} {
			if got := FromNum(kind, whole(n)); got != 0 {
				t.Errorf("FromNum(%d, %d) = %x", kind, n, got)
			}
		}
	}
	if w := FromNum(api.EUint8, whole(-1)); w != 255 {
		t.Errorf("FromNum of -1: %d", w)
	}
}

func TestP4_3_FromNumOfOthers(t *testing.T) {
	others := []api.Num{{Kind: api.NNegZero}, {Kind: api.NNaN}, {Kind: api.NInf}, {Kind: api.NNegInf},
		whole(api.MaxSafe + 1), whole(api.MaxSafe + 8), whole(-api.MaxSafe - 1), whole(-api.MaxSafe - 6), whole(math.MaxInt), whole(math.MinInt), whole(math.MinInt + 5),
		{Kind: api.NNegZero, N: 5}, {Kind: api.NNaN, N: 5}, {Kind: api.NInf, N: -1}, {Kind: api.NNegInf, N: 1}, {Kind: 5, N: 3}, {Kind: 7, N: 3}, {Kind: -1, N: 3}, {Kind: math.MaxInt, N: 1}, {Kind: math.MinInt, N: 1}, {Kind: 1 << 32, N: 1}}
	for _, kind := range append(eightKinds(), 0, -1, 9) {
		for _, a := range others {
			if w := FromNum(kind, a); w != 0 {
				t.Errorf("FromNum(%d, %+v) = %x", kind, a, w)
			}
		}
	}
}

func TestP4_3_ToNum(t *testing.T) {
	check := func(l layout, w uint64) {
		want := whole(0)
		if !l.big {
			want.N = int(valueOf(l, w).Int64())
		}
		if got := ToNum(l.kind, w); got != want {
			t.Fatalf("ToNum(%d, %x) = %+v", l.kind, w, got)
		}
	}
	for _, l := range layouts() {
		for _, w := range someWords() {
			check(l, w)
		}
		for w := range uint64(1 << 16) {
			check(l, w)
		}
	}
	for _, kind := range strangers() {
		if a := ToNum(kind, 5); a != whole(0) {
			t.Errorf("ToNum(%d, 5) = %+v", kind, a)
		}
	}
	for _, c := range []struct {
		kind int
		w    uint64
		want int
	}{{api.EInt8, 255, -1}, {api.EInt8, 127, 127}, {api.EInt8, 128, -128}, {api.EUint8, 128, 128}, {api.EInt16, 1<<15 - 1, 1<<15 - 1}, {api.EInt16, 1 << 15, -1 << 15}, {api.EInt32, 1<<31 - 1, 1<<31 - 1}, {api.EInt32, 1 << 31, -1 << 31}, {api.EUint32, math.MaxUint32, math.MaxUint32}, {api.EUint32, 1 << 32, 0}} {
		if a := ToNum(c.kind, c.w); a != whole(c.want) {
			t.Errorf("ToNum(%d, %x) = %+v", c.kind, c.w, a)
		}
	}
}

func someBigs() []api.Big {
	all := []api.Big{{}, {Mag: []uint32{}}}
	both := func(mag ...uint32) {
		all = append(all, api.Big{Mag: mag}, api.Big{Neg: true, Mag: slices.Clone(mag)})
	}
	const full = math.MaxUint32
	for _, top := range []uint32{1, 2, 1<<31 - 1, 1 << 31, 1<<31 + 1, full - 1, full} {
		both(top)
		for _, low := range []uint32{0, 1, full} {
			both(low, top)
			both(low, 0, top)
			both(0, low, top)
			both(low, low, low, top)
			both(0, low, 0, 0, 0, 0, 0, top)
			both(low, low, low, low, low, low, low, top)
		}
	}
	r := rand.New(rand.NewSource(3))
	for range 500 {
		mag := make([]uint32, 1+r.Intn(8))
		for i := range mag {
			mag[i] = r.Uint32()
		}
		mag[len(mag)-1] |= 1
		both(mag...)
	}
	return all
}

func TestP4_3_FromBig(t *testing.T) {
	for _, a := range someBigs() {
		was := api.Big{Neg: a.Neg, Mag: slices.Clone(a.Mag)}
		for _, l := range layouts() {
			want := uint64(0)
			if l.big {
				want = wordOf(l.size, ofBig(a))
			}
			if got := FromBig(l.kind, a); got != want {
				t.Errorf("FromBig(%d, %s) = %x", l.kind, ofBig(a), got)
			}
		}
		for _, kind := range []int{0, -1, 9, math.MaxInt, math.MinInt, 1<<32 + 7} {
			if got := FromBig(kind, a); got != 0 {
				t.Errorf("FromBig(%d, %s) = %x", kind, ofBig(a), got)
			}
		}
		if a.Neg != was.Neg || !slices.Equal(a.Mag, was.Mag) {
			t.Fatalf("FromBig changes %s", ofBig(was))
		}
	}
	for _, kind := range strangers() {
		if got := FromBig(kind, big.Of(5)); got != 0 {
			t.Errorf("FromBig(%d, 5) = %x", kind, got)
		}
	}
}

func TestP4_3_FromBigThatIsNotValid(t *testing.T) {
	for _, a := range []api.Big{{Neg: true}, {Neg: true, Mag: []uint32{}}, {Mag: []uint32{0}}, {Neg: true, Mag: []uint32{0}}, {Mag: []uint32{5, 0}}, {Neg: true, Mag: []uint32{5, 0}}, {Mag: []uint32{1, 2, 0}}, {Mag: []uint32{1, 2, 3, 4, 5, 6, 7, 8, 9}}, {Neg: true, Mag: []uint32{1, 2, 3, 4, 5, 6, 7, 8, 9}}, {Mag: slices.Repeat([]uint32{1}, 1000)}} {
		for _, kind := range append(eightKinds(), 0, 9) {
			if w := FromBig(kind, a); w != 0 {
				t.Errorf("FromBig(%d, %+v) = %x", kind, a, w)
			}
		}
	}
}

func TestP4_3_ToBig(t *testing.T) {
	for _, w := range someWords() {
		for _, l := range layouts() {
			got := ToBig(l.kind, w)
			want := new(std.Int)
			if l.big {
				want = valueOf(l, w)
			}
			if !big.May(got) || ofBig(got).Cmp(want) != 0 {
				t.Errorf("ToBig(%d, %x) = %+v", l.kind, w, got)
			}
		}
	}
	for _, kind := range strangers() {
		for _, w := range []uint64{5, math.MaxUint64} {
			if got := ToBig(kind, w); !isNought(got) {
				t.Errorf("ToBig(%d, %x) = %+v", kind, w, got)
			}
		}
	}
	for _, c := range []struct {
		kind int
		w    uint64
		want string
	}{{api.EBigInt64, math.MaxUint64, "-1"}, {api.EBigUint64, math.MaxUint64, "18446744073709551615"}, {api.EBigInt64, 1 << 63, "-9223372036854775808"}, {api.EBigInt64, 1<<63 - 1, "9223372036854775807"}, {api.EBigUint64, 1 << 63, "9223372036854775808"}, {api.EBigInt64, 0, "0"}} {
		if got := big.Text(ToBig(c.kind, c.w)); got != c.want {
			t.Errorf("ToBig(%d, %x) = %s", c.kind, c.w, got)
		}
	}
}

func TestP4_3_ToBigIsNewMemory(t *testing.T) {
	for _, kind := range []int{api.EBigInt64, api.EBigUint64} {
		for _, w := range []uint64{1, math.MaxUint64, 0x0102030405060708} {
			one, other := ToBig(kind, w), ToBig(kind, w)
			was := slices.Clone(other.Mag)
			for i := range one.Mag[:cap(one.Mag)] {
				one.Mag[:cap(one.Mag)][i] = 99
			}
			if !slices.Equal(other.Mag, was) || !slices.Equal(ToBig(kind, w).Mag, was) {
				t.Errorf("ToBig(%d, %x): what is written into a result is in another one", kind, w)
			}
		}
	}
}

// changed works an operation out by integers of any size.
func changed(l layout, op int, old, by uint64) (uint64, bool) {
	a, b, n := ofWord(old), ofWord(by), new(std.Int)
	switch op {
	case 1:
		n.Add(a, b)
	case 2:
		n.And(a, b)
	case 3:
		n.Or(a, b)
	case 4:
		n.Sub(a, b)
	case 5:
		n.Xor(a, b)
	case 6:
		n.Set(b)
	default:
		return 0, false
	}
	return wordOf(l.size, n), true
}

func TestP4_4_Change(t *testing.T) {
	check := func(l layout, op int, old, by uint64) {
		want, wantOk := changed(l, op, old, by)
		if got, ok := Change(l.kind, op, old, by); got != want || ok != wantOk {
			t.Fatalf("Change(%d, %d, %x, %x) = %x, %v", l.kind, op, old, by, got, ok)
		}
	}
	edges := []uint64{0, 1, 5, 10, 127, 128, 250, 255, 256, 1<<15 - 1, 1 << 15, 1<<16 - 1, 1 << 16, 1<<31 - 1, 1 << 31, 1<<32 - 1, 1 << 32, 1<<63 - 1, 1 << 63, math.MaxUint64 - 1, math.MaxUint64, 0xF0F0F0F0F0F0F0F0, 0xCCCCCCCCCCCCCCCC}
	r := rand.New(rand.NewSource(4))
	for _, l := range layouts() {
		for op := 1; op <= 6; op++ {
			for _, old := range edges {
				for _, by := range edges {
					check(l, op, old, by)
				}
			}
			for range 500 {
				check(l, op, r.Uint64(), r.Uint64()>>r.Intn(64))
			}
		}
	}
}

func TestP4_4_ChangeOfNone(t *testing.T) {
	check := func(kind, op int) {
		for _, w := range []uint64{0, 1, math.MaxUint64} {
			if got, ok := Change(kind, op, w, w); got != 0 || ok {
				t.Errorf("Change(%d, %d, %x, %x) = %x, %v", kind, op, w, w, got, ok)
			}
		}
	}
	ops := []int{0, 7, 8, 9, -1, -6, 1<<8 + 1, 1<<32 + 1, 1<<32 + 6, math.MaxInt, math.MinInt, math.MinInt + 1}
	for _, op := range ops {
		for _, l := range layouts() {
			check(l.kind, op)
		}
	}
	for _, kind := range strangers() {
		for op := -1; op <= 8; op++ {
			check(kind, op)
		}
	}
}

func TestP4_4_Examples(t *testing.T) {
	for _, c := range []struct {
		kind, op int
		old, by  uint64
		want     uint64
	}{{api.EUint8, 1, 250, 10, 4}, {api.EInt8, 4, 0, 1, 255}, {api.EUint16, 2, 0x1FF0F, 0x1F0FF, 0xF00F}, {api.EUint16, 3, 0x10F00, 0x000F0, 0xFF0}, {api.EInt32, 5, 6, 3, 5}, {api.EInt32, 6, 7, 1<<32 + 9, 9}, {api.EBigUint64, 1, math.MaxUint64, 2, 1}, {api.EBigInt64, 4, 0, 1, math.MaxUint64}} {
		if got, ok := Change(c.kind, c.op, c.old, c.by); got != c.want || !ok {
			t.Errorf("Change(%d, %d, %x, %x) = %x, %v", c.kind, c.op, c.old, c.by, got, ok)
		}
	}
}

// eachWord calls check for words of each kind, all of them where they are short.
func eachWord(check func(l layout, w uint64)) {
	for _, l := range layouts() {
		for _, w := range someWords() {
			check(l, cutWord(l.size, w))
		}
		if l.size <= 2 {
			for w := range uint64(1) << (8 * l.size) {
				check(l, w)
			}
		}
	}
}

func TestP4_5_WordOfBytes(t *testing.T) {
	eachWord(func(l layout, w uint64) {
		if back, ok := Word(l.kind, Bytes(l.kind, w)); back != w || !ok {
			t.Fatalf("Word(Bytes(%d, %x)) = %x, %v", l.kind, w, back, ok)
		}
	})
}

func TestP4_5_FromOfTo(t *testing.T) {
	eachWord(func(l layout, w uint64) {
		if l.big {
			if back := FromBig(l.kind, ToBig(l.kind, w)); back != w {
				t.Fatalf("FromBig(ToBig(%d, %x)) = %x", l.kind, w, back)
			}
			return
		}
		if !num.May(ToNum(l.kind, w)) {
			t.Fatalf("ToNum(%d, %x) is not valid", l.kind, w)
		}
		if back := FromNum(l.kind, ToNum(l.kind, w)); back != w {
			t.Fatalf("FromNum(ToNum(%d, %x)) = %x", l.kind, w, back)
		}
	})
}

func TestP4_5_AddAndTakeAway(t *testing.T) {
	bys := []uint64{0, 1, 127, 128, 255, 1 << 15, 1<<31 - 1, 1 << 32, 1 << 63, math.MaxUint64, 0x0102030405060708}
	eachWord(func(l layout, w uint64) {
		for _, by := range bys {
			sum, ok := Change(l.kind, 1, w, by)
			back, okBack := Change(l.kind, 4, sum, by)
			if back != w || !ok || !okBack {
				t.Fatalf("kind %d: %x + %x - %x = %x", l.kind, w, by, by, back)
			}
		}
	})
}
