package model_test

import (
	"math/rand"
	"slices"
	"testing"

	"rendezvous/event"
	"rendezvous/model"
)

func TestP16_6_NoEvents(t *testing.T) {
	for _, l := range []event.Log{{}, {Events: []event.Event{}, Pairs: [][2]int{}}, event.Head(sample(), 0)} {
		for _, order := range [][]int{nil, {}, model.Natural(l)} {
			got := ask(l, order)
			if got.coherent != -1 || got.tearFree != -1 || got.ordered != -1 || got.atomic != -1 || !got.valid || len(got.natural) > 0 {
				t.Errorf("a log without events: %v", got)
			}
		}
	}
}

// checkHeads holds what is found in the heads against what is found in the log: the same event, as soon as it is there.
func checkHeads(t *testing.T, check func(event.Log) int, l event.Log) bool {
	t.Helper()
	found := check(l)
	for n := range len(l.Events) + 1 {
		want := -1
		if found >= 0 && found < n {
			want = found
		}
		if got := check(event.Head(l, n)); got != want {
			t.Fatalf("the head of %d of %v: %d, want %d", n, l, got, want)
		}
	}
	return found >= 0
}

func TestP16_6_Heads(t *testing.T) {
	r, coherent, tear, atomic := rand.New(rand.NewSource(9)), 0, 0, 0
	for range 4000 {
		l := randomLog(r, r.Intn(20))
		if checkHeads(t, model.Coherent, l) {
			coherent++
		}
		if checkHeads(t, model.TearFree, l) {
			tear++
		}
		// In the order of the log, nothing that comes later lies between.
		if checkHeads(t, natural, l) {
			atomic++
		}
	}
	if coherent < 500 || tear < 50 || atomic < 100 {
		t.Errorf("only %d, %d and %d logs violate something", coherent, tear, atomic)
	}
}

// The order of the log keeps all pairs of Before, and so does each order in which an event that
// nothing orders comes elsewhere.
func TestP16_6_NaturalIsOrdered(t *testing.T) {
	r := rand.New(rand.NewSource(10))
	for range 1000 {
		l := randomLog(r, r.Intn(16))
		order := model.Natural(l)
		if model.Ordered(l, order) != -1 {
			t.Fatalf("%v: the order of the log is none", l)
		}
		if !event.May(l) || !slices.Equal(order, numbers(len(l.Events))) {
			t.Fatalf("%v: %v", l, order)
		}
		l.Events = append(l.Events, sync(63))
		last := len(l.Events) - 1
		if moved := slices.Insert(order, r.Intn(len(order)+1), last); model.Ordered(l, moved) != -1 {
			t.Fatalf("%v: %v", l, moved)
		}
	}
}
