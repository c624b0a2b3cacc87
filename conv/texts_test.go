package conv_test

import (
	"math"
	"math/rand"
	"slices"
	"strings"
	"testing"

	"rendezvous/api"
	"rendezvous/big"
	"rendezvous/conv"
	"rendezvous/heap"
	"rendezvous/num"
	"rendezvous/text"
)

func checkTextOf(t *testing.T, v heap.Value, want []uint16, signal int) {
	t.Helper()
	if u, s := conv.Text(v); !slices.Equal(u, want) || s != signal {
		t.Errorf("Text of %v: %v, %d; want %v, %d", short(v), u, s, want, signal)
	}
}

func TestP10_4_Text(t *testing.T) {
	for _, c := range []struct {
		v    heap.Value
		want string
	}{
		{undefined, "undefined"}, {null, "null"}, {yes, "true"}, {no, "false"}, {whole(0), "0"}, {number(negZero), "0"}, {number(nan), "NaN"}, {number(infinite), "Infinity"}, {number(below), "-Infinity"},
		{whole(7), "7"}, {whole(-10), "-10"}, {whole(api.MaxSafe), "9007199254740991"}, {whole(-api.MaxSafe), "-9007199254740991"},
		{bigInt(0), "0"}, {bigInt(7), "7"}, {bigInt(-10), "-10"}, {bigInt(math.MinInt), "-9223372036854775808"},
		{bigLimbs(true, 1<<32-1, 1<<32-1, 1<<32-1, 1<<32-1, 1<<32-1, 1<<32-1, 1<<32-1, 1<<32-1), "-" + greatest},
		{str(""), ""}, {str("a b"), "a b"}, {str(" 007 "), " 007 "}, {str("undefined"), "undefined"}, {str(strings.Repeat("ab", most/2)), strings.Repeat("ab", most/2)},
	} {
		checkTextOf(t, c.v, text.Ascii(c.want), conv.Ok)
	}
	for _, u := range [][]uint16{{0}, {0xD800}, {0xDC00, 0xD800}, {0xFFFF}, {0xE9, 'a'}, make([]uint16, most)} {
		checkTextOf(t, units(u...), u, conv.Ok)
	}
	for _, ref := range []int{0, 1, 77, math.MaxInt} {
		checkTextOf(t, object(ref), nil, conv.Exit)
	}
}

func TestP10_4_TextOfAll(t *testing.T) {
	for _, v := range validValues() {
		switch v.Kind {
		case 3:
			checkTextOf(t, v, text.Ascii(num.Text(v.N)), conv.Ok)
		case 4:
			checkTextOf(t, v, text.Ascii(big.Text(v.B)), conv.Ok)
		case 5:
			checkTextOf(t, v, v.S, conv.Ok)
		case 6:
			checkTextOf(t, v, nil, conv.Exit)
		}
	}
}

func TestP10_7_NumberOfText(t *testing.T) {
	all := nums()
	r := rand.New(rand.NewSource(7))
	for range 20000 {
		all = append(all, api.Num{N: (r.Intn(2*api.MaxSafe+1) - api.MaxSafe) >> r.Intn(53)})
	}
	for _, a := range all {
		want := a
		if a == negZero {
			want = api.Num{}
		}
		u, signal := conv.Text(number(a))
		b, back := conv.Number(conv.Str(u))
		if b != want || signal != conv.Ok || back != conv.Ok {
			t.Errorf("Number of Text of %v: %v, %d, %d", a, b, signal, back)
		}
	}
}
