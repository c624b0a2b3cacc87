package model_test

import (
	"math/rand"
	"slices"
	"testing"

	"rendezvous/event"
	"rendezvous/model"
)

// natural asks Atomic for the order of the log.
func natural(l event.Log) int { return model.Atomic(l, model.Natural(l)) }

func TestP16_3_AtomicExamples(t *testing.T) {
	one := []byte{1}
	checkCases(t, natural, []sampleCase{
		{"no events", event.Log{}, -1},
		{"a sample", sample(), -1},
		{"the example", logOf(seq(store(0, 0, 0, 1)), seq(store(0, 0, 0, 2)), seq(load(1, 0, 0, one, 0))), 2},
		{"the initial zero", logOf(seq(store(0, 0, 0, 1)), seq(load(1, 0, 0, []byte{0}, -1))), -1},
		{"one that is between, and Equal", logOf(seq(store(0, 0, 0, 1)), seq(store(1, 0, 0, 2)), seq(load(2, 0, 0, one, 0))), 2},
		{"one that comes later", logOf(seq(store(0, 0, 0, 1)), seq(load(2, 0, 0, one, 0)), seq(store(1, 0, 0, 2))), -1},
		{"one that comes earlier", logOf(seq(store(1, 0, 0, 2)), seq(store(0, 0, 0, 1)), seq(load(2, 0, 0, one, 1))), -1},
		{"a Change between", logOf(seq(store(0, 0, 0, 1)), change(1, 0, 0, one, []byte{2}, 0), seq(load(2, 0, 0, one, 0))), 2},
		{"two Changes", logOf(seq(store(0, 0, 0, 1)), change(1, 0, 0, one, []byte{2}, 0), change(2, 0, 0, one, []byte{2}, 0)), 2},
		{"a Change of a Change", logOf(seq(store(0, 0, 0, 1)), change(1, 0, 0, one, []byte{2}, 0), change(2, 0, 0, []byte{2}, one, 1)), -1},
		{"a Load between", logOf(seq(store(0, 0, 0, 1)), seq(load(1, 0, 0, one, 0)), seq(load(2, 0, 0, one, 0))), -1},
		{"a Sync between", logOf(seq(store(0, 0, 0, 1)), sync(0), seq(load(2, 0, 0, one, 0))), -1},
		{"a plain Store between", logOf(seq(store(0, 0, 0, 1)), store(1, 0, 0, 2), seq(load(2, 0, 0, one, 0))), -1},
		{"a NoTear Store between", logOf(seq(store(0, 0, 0, 1)), noTear(store(1, 0, 0, 2)), seq(load(2, 0, 0, one, 0))), -1},
		{"the same byte between", logOf(seq(store(0, 0, 0, 1)), seq(store(1, 0, 0, 1)), seq(load(2, 0, 0, one, 0))), 2},
		{"the first of three", logOf(seq(store(0, 0, 0, 1)), seq(load(2, 0, 0, one, 0)), seq(store(1, 0, 0, 2)), seq(load(2, 0, 0, one, 0)), seq(load(2, 0, 0, one, 0)), seq(load(3, 0, 0, one, 0))), 3},
	})
}

// What counts is the order, not the log.
func TestP16_3_AtomicByOrder(t *testing.T) {
	l := logOf(seq(store(0, 0, 0, 1)), seq(store(1, 0, 0, 2)), seq(load(2, 0, 0, []byte{1}, 0)), seq(load(3, 0, 0, []byte{2}, 1)))
	for _, c := range []struct {
		order []int
		want  int
	}{
		{[]int{0, 1, 2, 3}, 2}, {[]int{1, 0, 2, 3}, 3}, {[]int{0, 2, 1, 3}, -1}, {[]int{1, 3, 0, 2}, -1}, {[]int{0, 1, 3, 2}, 2}, {[]int{1, 0, 3, 2}, 3},
		{[]int{2, 0, 1, 3}, 0}, {[]int{0, 3, 1, 2}, 0}, {[]int{0, 1, 2}, 0}, {nil, 0}, {[]int{0, 1, 2, 2}, 0}, {[]int{0, 1, 2, 4}, 0}, {[]int{0, 1, 2, -1}, 0},
	} {
		if got := model.Atomic(l, c.order); got != c.want {
			t.Errorf("Atomic(%v) = %d, want %d", c.order, got, c.want)
		}
	}
	// A Load that stands ahead of the Store that it reads from has nothing between them that counts.
	plain := logOf(store(0, 0, 0, 1), seq(store(1, 0, 0, 2)), seq(load(2, 0, 0, []byte{1}, 0)))
	for _, order := range permutations(numbers(3)) {
		if got := model.Atomic(plain, order); got != -1 {
			t.Errorf("Atomic(%v) of a plain Store = %d", order, got)
		}
	}
}

// (W, R) is in Sync, and V and R are Equal.
func TestP16_3_FirstCase(t *testing.T) {
	two := []byte{1, 1}
	checkCases(t, natural, []sampleCase{
		{"V between", logOf(seq(store(0, 0, 4, 1, 1)), seq(store(1, 0, 4, 2, 2)), seq(load(2, 0, 4, two, 0, 0))), 2},
		{"V is longer", logOf(seq(store(0, 0, 4, 1, 1)), seq(store(1, 0, 4, 2, 2, 2)), seq(load(2, 0, 4, two, 0, 0))), -1},
		{"V is shorter", logOf(seq(store(0, 0, 4, 1, 1)), seq(store(1, 0, 4, 2)), seq(load(2, 0, 4, two, 0, 0))), -1},
		{"V is elsewhere", logOf(seq(store(0, 0, 4, 1, 1)), seq(store(1, 0, 5, 2, 2)), seq(load(2, 0, 4, two, 0, 0))), -1},
		{"V in another block", logOf(seq(store(0, 0, 4, 1, 1)), seq(store(1, 1, 4, 2, 2)), seq(load(2, 0, 4, two, 0, 0))), -1},
		{"W is longer", logOf(seq(store(0, 0, 4, 1, 1, 1)), seq(store(1, 0, 4, 2, 2)), seq(load(2, 0, 4, two, 0, 0))), -1},
		{"W is plain", logOf(store(0, 0, 4, 1, 1), seq(store(1, 0, 4, 2, 2)), seq(load(2, 0, 4, two, 0, 0))), -1},
		{"R is plain", logOf(seq(store(0, 0, 4, 1, 1)), seq(store(1, 0, 4, 2, 2)), load(2, 0, 4, two, 0, 0)), -1},
		// A pair of the log is in Sync as well, whatever its events are.
		{"a pair, both plain", with(logOf(store(0, 0, 4, 1, 1), seq(store(1, 0, 4, 2, 2)), load(2, 0, 4, two, 0, 0)), [2]int{0, 2}), 2},
		{"a pair, W is longer", with(logOf(store(0, 0, 4, 1, 1, 1), seq(store(1, 0, 4, 2, 2)), load(2, 0, 4, two, 0, 0)), [2]int{0, 2}), 2},
		{"a pair, V is Equal to W only", with(logOf(store(0, 0, 4, 1, 1, 1), seq(store(1, 0, 4, 2, 2, 2)), load(2, 0, 4, two, 0, 0)), [2]int{0, 2}), -1},
		{"a pair, V is plain", with(logOf(store(0, 0, 4, 1, 1), store(1, 0, 4, 2, 2), load(2, 0, 4, two, 0, 0)), [2]int{0, 2}), -1},
		{"no pair, but one agent", logOf(store(0, 0, 4, 1, 1), seq(store(1, 0, 4, 2, 2)), load(0, 0, 4, two, 0, 0)), -1},
	})
}

// (W, R) and (V, R) are in Before, W is Seq, and W and V are Equal.
func TestP16_3_SecondCase(t *testing.T) {
	two := []byte{1, 1}
	w, v, r := seq(store(0, 0, 4, 1, 1, 1)), seq(store(1, 0, 4, 2, 2, 2)), load(2, 0, 4, two, 0, 0)
	reach := func(e event.Event) event.Log { return logOf(e, v, sync(2), r) }
	both := [][2]int{{0, 2}, {1, 2}}
	checkCases(t, natural, []sampleCase{
		{"V between", with(reach(w), both...), 3},
		{"V is not before R", with(reach(w), both[0]), -1},
		{"W is not before R", with(reach(w), both[1]), -1},
		{"W is plain", with(reach(store(0, 0, 4, 1, 1, 1)), both...), -1},
		{"W is NoTear", with(reach(noTear(store(0, 0, 4, 1, 1, 1))), both...), -1},
		{"W is longer", with(reach(seq(store(0, 0, 4, 1, 1, 1, 1))), both...), -1},
		{"W is like R", with(reach(seq(store(0, 0, 4, 1, 1))), both...), -1},
		{"W is elsewhere", with(reach(seq(store(0, 0, 3, 1, 1, 1))), both...), -1},
		{"W is a Change", with(reach(change(0, 0, 4, []byte{0, 0, 0}, []byte{1, 1, 1}, -1, -1, -1)), both...), 3},
		{"V is plain", with(logOf(w, store(1, 0, 4, 2, 2, 2), sync(2), r), both...), -1},
		{"V is a Load", with(logOf(w, seq(load(1, 0, 4, []byte{0, 0, 0}, -1, -1, -1)), sync(2), r), both...), -1},
		{"R is Seq", with(logOf(w, v, sync(2), seq(r)), both...), 3},
		{"by agents", logOf(w, seq(store(0, 0, 4, 2, 2, 2)), load(0, 0, 4, two, 0, 0)), 2},
	})
}

// (W, R) and (W, V) are in Before, R is Seq, and V and R are Equal.
func TestP16_3_ThirdCase(t *testing.T) {
	two := []byte{1, 1}
	w, v, r := store(0, 0, 4, 1, 1, 1), seq(store(1, 0, 4, 2, 2)), seq(load(2, 0, 4, two, 0, 0))
	leave := func(v, r event.Event, pairs ...[2]int) event.Log { return with(logOf(w, sync(0), v, r), pairs...) }
	both := [][2]int{{1, 2}, {1, 3}}
	checkCases(t, natural, []sampleCase{
		{"V between", leave(v, r, both...), 3},
		{"W is not before V", leave(v, r, both[1]), -1},
		{"W is not before R", leave(v, r, both[0]), -1},
		{"R is plain", leave(v, load(2, 0, 4, two, 0, 0), both...), -1},
		{"R is NoTear", leave(v, noTear(load(2, 0, 4, two, 0, 0)), both...), -1},
		{"R is a Change", leave(v, change(2, 0, 4, two, two, 0, 0), both...), 3},
		{"R is shorter", leave(v, seq(load(2, 0, 4, two[1:], 0)), both...), -1},
		{"V is like W", leave(seq(store(1, 0, 4, 2, 2, 2)), r, both...), -1},
		{"V is plain", leave(store(1, 0, 4, 2, 2), r, both...), -1},
		{"V is a Change", leave(change(1, 0, 4, []byte{0, 0}, two, -1, -1), r, both...), 3},
		{"by agents", logOf(w, seq(store(0, 0, 4, 2, 2)), seq(load(0, 0, 4, two, 0, 0))), 2},
	})
}

// Each event that is read from counts, whatever byte it is.
func TestP16_3_EachOrigin(t *testing.T) {
	ones := make([]byte, 8)
	for i := range ones {
		ones[i] = 1
	}
	for n := range 8 {
		from := []int{-1, -1, -1, -1, -1, -1, -1, -1}
		read := make([]byte, 8)
		from[n], read[n] = 1, 1
		whole := logOf(sync(0), seq(store(0, 0, 0, ones...)), seq(store(1, 0, 0, read...)), seq(load(2, 0, 0, read, from...)))
		if got := natural(whole); got != 3 {
			t.Errorf("byte %d: Atomic = %d", n, got)
		}
		if got := model.Atomic(whole, []int{0, 2, 1, 3}); got != -1 {
			t.Errorf("byte %d, the other order: Atomic = %d", n, got)
		}
	}
}

// V may be one of the events that are read from, if it is not W itself.
func TestP16_3_OneOriginBetween(t *testing.T) {
	l := logOf(seq(store(0, 0, 0, 1, 1)), seq(store(1, 0, 0, 2, 2)), seq(load(2, 0, 0, []byte{1, 2}, 0, 1)))
	for _, order := range [][]int{{0, 1, 2}, {1, 0, 2}} {
		if got := model.Atomic(l, order); got != 2 {
			t.Errorf("Atomic(%v) = %d", order, got)
		}
	}
}

func TestP16_3_ManyAtomics(t *testing.T) {
	r, clean, refused := rand.New(rand.NewSource(5)), 0, 0
	alone, any := [3]int{}, 0
	for range 30000 {
		l := randomLog(r, r.Intn(14))
		order := model.Natural(l)
		switch r.Intn(5) {
		case 0:
		case 1:
			r.Shuffle(len(order), func(i, k int) { order[i], order[k] = order[k], order[i] })
		default:
			order = randomOrder(r, l)
		}
		want, cases := atomicByTheBook(l, order)
		if got := model.Atomic(l, order); got != want {
			t.Fatalf("Atomic(%v, %v) = %d, want %d", l, order, got, want)
		}
		if i := slices.Index(cases[:], true); want == -1 {
			clean++
		} else if i < 0 {
			refused++
		} else if any++; !slices.Contains(cases[i+1:], true) {
			alone[i]++
		}
	}
	if clean < 1000 || refused < 1000 || any < 1000 || min(alone[0], alone[1], alone[2]) < 100 {
		t.Errorf("%d violate nothing, %d orders are none, %d violate it, by one case alone %v", clean, refused, any, alone)
	}
}
