package conv_test

import (
	"slices"
	"testing"

	"rendezvous/api"
	"rendezvous/conv"
	"rendezvous/heap"
)

// results are all that the calls with one value answer.
type results struct {
	truth   bool
	number  api.Num
	numeric heap.Value
	bigInt  api.Big
	text    []uint16
	index   int
	signals [5]int
}

func resultsOf(v heap.Value) results {
	r := results{truth: conv.Bool(v)}
	r.number, r.signals[0] = conv.Number(v)
	r.numeric, r.signals[1] = conv.Numeric(v)
	r.bigInt, r.signals[2] = conv.BigInt(v)
	r.text, r.signals[3] = conv.Text(v)
	r.index, r.signals[4] = conv.Index(v)
	return r
}

// What is not valid is treated like undefined by every call.
func TestInvalidIsUndefined(t *testing.T) {
	want := shown(resultsOf(undefined))
	if want != shown(results{number: nan, numeric: number(nan), text: []uint16{'u', 'n', 'd', 'e', 'f', 'i', 'n', 'e', 'd'}, signals: [5]int{0, 0, conv.Type, 0, 0}}) {
		t.Errorf("undefined: %s", want)
	}
	others := []heap.Value{undefined, null, no, yes, number(nan), whole(0), whole(1), bigInt(0), bigInt(1), str(""), str("1"), str("undefined"), str("1.5"), object(0), object(1)}
	for _, one := range invalidValues() {
		if got := shown(resultsOf(one.bad)); got != want {
			t.Errorf("%v: %s", short(one.bad), got)
		}
		others := append(others, one.like)
		for _, v := range others {
			checkStrict(t, one.bad, v, v.Kind == 0)
			checkStrict(t, v, one.bad, v.Kind == 0)
			checkLoose(t, one.bad, v, v.Kind < 2, conv.Ok)
			checkLoose(t, v, one.bad, v.Kind < 2, conv.Ok)
		}
		checkStrict(t, one.bad, one.bad, true)
		checkLoose(t, one.bad, one.bad, true, conv.Ok)
	}
}

// Beside a signal there is nothing.
func TestZeroBesideSignal(t *testing.T) {
	for _, v := range validValues() {
		r := resultsOf(v)
		if r.signals[0] != 0 && r.number != (api.Num{}) || r.signals[1] != 0 && !heap.Same(r.numeric, heap.Value{}) || r.signals[2] != 0 && (r.bigInt.Neg || len(r.bigInt.Mag) > 0) ||
			r.signals[3] != 0 && len(r.text) > 0 || r.signals[4] != 0 && r.index != 0 {
			t.Errorf("%v: %v", short(v), shown(r))
		}
		for _, w := range validValues() {
			if is, signal := conv.Loose(v, w); is && signal != conv.Ok {
				t.Errorf("Loose of %v and %v: %v, %d", short(v), short(w), is, signal)
			}
		}
	}
}

// fill writes into a list and all its spare capacity, and behind it.
func fill[T any](list []T, x T) {
	_ = append(list, x, x, x)
	list = list[:cap(list)]
	for i := range list {
		list[i] = x
	}
}

// roomy returns a copy of a list with spare capacity, which is filled with x.
func roomy[T any](list []T, x T) []T {
	out := append(slices.Clone(list), x, x, x, x)
	return out[:len(list):len(out)]
}

// listsOf are the lists of units, and of limbs, of some results.
func listsOf(r results) ([][]uint16, [][]uint32) {
	return [][]uint16{r.text, r.numeric.S}, [][]uint32{r.bigInt.Mag, r.numeric.B.Mag}
}

// wipe writes into all lists of results.
func wipe(r results) {
	ofUnits, ofLimbs := listsOf(r)
	for _, u := range ofUnits {
		fill(u, 0xEEEE)
	}
	for _, l := range ofLimbs {
		fill(l, 0xEEEEEEEE)
	}
}

func TestP10_6_Arguments(t *testing.T) {
	for _, v := range validValues() {
		v.S, v.B.Mag = roomy(v.S, 0xABCD), roomy(v.B.Mag, 0xABCDABCD)
		spare, limbs := v.S[:cap(v.S)], v.B.Mag[:cap(v.B.Mag)]
		was, first := shown([]any{v, spare, limbs}), shown(resultsOf(v))
		r, again := resultsOf(v), resultsOf(v)
		for _, w := range validValues() {
			conv.Strict(v, w)
			conv.Loose(w, v)
		}
		wipe(r)
		if shown([]any{v, spare, limbs}) != was {
			t.Errorf("%v is changed", short(v))
		}
		if shown(again) != first {
			t.Errorf("results of %v share memory", short(v))
		}
		// What becomes of the argument does not reach the results.
		fill(v.S, 0xDDDD)
		fill(v.B.Mag, 0xDDDDDDDD)
		if shown(again) != first {
			t.Errorf("results keep %v", short(v))
		}
	}
}

// The lists of the results of different calls are apart from each other, and from
// those of later calls.
func TestP10_6_ResultsApart(t *testing.T) {
	for _, v := range validValues() {
		r := resultsOf(v)
		was := shown(r)
		ofUnits, ofLimbs := listsOf(r)
		checkApart(t, ofUnits, 0xEEEE)
		checkApart(t, ofLimbs, 0xEEEEEEEE)
		if shown(resultsOf(v)) != was {
			t.Errorf("later results of %v are others", short(v))
		}
	}
}

func checkApart[T any](t *testing.T, lists [][]T, x T) {
	t.Helper()
	was := []string{}
	for _, l := range lists {
		was = append(was, shown(l))
	}
	for i, l := range lists {
		fill(l, x)
		for j := i + 1; j < len(lists); j++ {
			if shown(lists[j]) != was[j] {
				t.Errorf("list %d shares memory with list %d", i, j)
			}
		}
	}
}

func TestP10_6_Str(t *testing.T) {
	for _, size := range []int{0, 1, 2, 5, most, most + 1, most + 9} {
		u := roomy(make([]uint16, size), 0xABCD)
		whole := u[:cap(u)]
		was := shown(whole)
		v, w := conv.Str(u), conv.Str(u)
		fill(v.S, 0xEEEE)
		if shown(whole) != was || !heap.Same(w, units(make([]uint16, min(size, most))...)) {
			t.Errorf("Str of %d units shares memory with its argument, or with another result", size)
		}
		fill(u, 0xDDDD)
		if !heap.Same(w, units(make([]uint16, min(size, most))...)) {
			t.Errorf("Str of %d units keeps its argument", size)
		}
	}
}
