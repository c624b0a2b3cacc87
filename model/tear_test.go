package model_test

import (
	"math/rand"
	"testing"

	"rendezvous/event"
	"rendezvous/model"
)

func TestP16_2_Cases(t *testing.T) {
	a, b := noTear(store(0, 0, 4, 1, 1)), noTear(store(1, 0, 4, 2, 2))
	mixed := noTear(load(2, 0, 4, []byte{1, 2}, 0, 1))
	checkCases(t, model.TearFree, []sampleCase{
		{"no events", event.Log{}, -1},
		{"a sample", sample(), -1},
		{"two Stores", logOf(a, b, mixed), 2},
		{"two Stores, the other way round", logOf(a, b, noTear(load(2, 0, 4, []byte{2, 1}, 1, 0))), 2},
		{"one Store", logOf(a, b, noTear(load(2, 0, 4, []byte{1, 1}, 0, 0))), -1},
		{"one Store and the initial zero", logOf(a, b, noTear(load(2, 0, 4, []byte{0, 2}, -1, 1))), -1},
		{"one Store, then the initial zero", logOf(a, b, noTear(load(2, 0, 4, []byte{2, 0}, 1, -1))), -1},
		{"a Load that tears", logOf(a, b, load(2, 0, 4, []byte{1, 2}, 0, 1)), -1},
		{"a Seq Load that tears", logOf(a, b, seq(load(2, 0, 4, []byte{1, 2}, 0, 1))), -1},
		{"a Seq Load", logOf(a, b, seq(mixed)), 2},
		{"the first Store tears", logOf(store(0, 0, 4, 1, 1), b, mixed), -1},
		{"the second Store tears", logOf(a, store(1, 0, 4, 2, 2), mixed), -1},
		{"Seq Stores that tear", logOf(seq(store(0, 0, 4, 1, 1)), seq(store(1, 0, 4, 2, 2)), mixed), -1},
		{"one agent", logOf(a, noTear(store(0, 0, 4, 2, 2)), noTear(load(0, 0, 4, []byte{1, 2}, 0, 1))), 2},
		{"what a Change reads", logOf(a, b, change(2, 0, 4, []byte{1, 2}, []byte{3, 3}, 0, 1)), 2},
		{"what a Change wrote", logOf(a, change(1, 0, 4, []byte{1, 1}, []byte{2, 2}, 0, 0), mixed), 2},
		{"a Load from a Change and the initial zero", logOf(change(0, 0, 4, []byte{0, 0}, []byte{1, 1}, -1, -1), noTear(load(1, 0, 4, []byte{1, 0}, 0, -1))), -1},
	})
}

// An event that is not Equal counts for nothing.
func TestP16_2_Ranges(t *testing.T) {
	a := noTear(store(0, 0, 4, 1, 1))
	mixed := noTear(load(2, 0, 4, []byte{1, 2}, 0, 1))
	checkCases(t, model.TearFree, []sampleCase{
		{"a byte of them", logOf(a, noTear(store(1, 0, 5, 2)), mixed), -1},
		{"a byte less", logOf(a, noTear(store(1, 0, 5, 2, 2)), mixed), -1},
		{"a byte more", logOf(a, noTear(store(1, 0, 4, 2, 2, 2)), mixed), -1},
		{"a part of what is written", logOf(noTear(store(0, 0, 4, 1, 1, 1, 1)), noTear(store(1, 0, 4, 2, 2, 2, 2)), mixed), -1},
		{"parts of a wide Load", logOf(a, noTear(store(1, 0, 6, 2, 2)), noTear(load(2, 0, 4, []byte{1, 1, 2, 2}, 0, 0, 1, 1))), -1},
		{"three, of which two are Equal", logOf(a, noTear(store(1, 0, 5, 2)), noTear(store(3, 0, 4, 3, 3)), noTear(load(2, 0, 4, []byte{3, 2}, 2, 1))), -1},
		{"the outer ones are Equal", logOf(noTear(store(0, 0, 0, 1, 1, 1)), noTear(store(1, 0, 1, 2)), noTear(store(2, 0, 0, 3, 3, 3)), noTear(load(3, 0, 0, []byte{1, 2, 3}, 0, 1, 2))), 3},
		{"the zero stands between", logOf(noTear(store(0, 0, 0, 1, 1, 1)), noTear(store(2, 0, 0, 3, 3, 3)), noTear(load(3, 0, 0, []byte{1, 0, 3}, 0, -1, 1))), 2},
		{"the first and the last of eight", logOf(noTear(store(0, 0, 0, 1, 1, 1, 1, 1, 1, 1, 1)), noTear(store(1, 0, 0, 2, 2, 2, 2, 2, 2, 2, 2)), noTear(load(2, 0, 0, []byte{1, 1, 1, 1, 1, 1, 1, 2}, 0, 0, 0, 0, 0, 0, 0, 1))), 2},
		{"one, another one, and the first again", logOf(noTear(store(0, 0, 0, 1, 1, 1)), store(1, 0, 0, 2, 2, 2), noTear(load(2, 0, 0, []byte{1, 2, 1}, 0, 1, 0))), -1},
		{"a single byte", logOf(noTear(store(0, 0, 0, 1)), noTear(store(1, 0, 0, 2)), noTear(load(2, 0, 0, []byte{1}, 0))), -1},
	})
}

func TestP16_2_First(t *testing.T) {
	a, b := noTear(store(0, 0, 4, 1, 1)), noTear(store(1, 0, 4, 2, 2))
	mixed := noTear(load(2, 0, 4, []byte{1, 2}, 0, 1))
	checkCases(t, model.TearFree, []sampleCase{
		{"three", logOf(a, b, load(2, 0, 4, []byte{1, 2}, 0, 1), mixed, sync(0), mixed, mixed), 3},
	})
}

func TestP16_2_ManyLogs(t *testing.T) {
	r, found, clean := rand.New(rand.NewSource(2)), 0, 0
	for range 20000 {
		l := randomLog(r, r.Intn(32))
		want := tearFreeByTheBook(l)
		if got := model.TearFree(l); got != want {
			t.Fatalf("TearFree(%v) = %d, want %d", l, got, want)
		}
		if want == -1 {
			clean++
		} else {
			found++
		}
	}
	if clean < 1000 || found < 1000 {
		t.Errorf("%d logs violate nothing, %d do", clean, found)
	}
}
