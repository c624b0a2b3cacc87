package race_test

import (
	"math/rand"
	"testing"

	"rendezvous/event"
	"rendezvous/race"
)

func TestP17_2_Cases(t *testing.T) {
	zero := []byte{0}
	a, b := store(0, 0, 4, 1), store(1, 0, 4, 2)
	for _, c := range []struct {
		name string
		l    event.Log
		want int
	}{
		{"no events", event.Log{}, -1},
		{"one event", logOf(a), -1},
		{"two Stores", logOf(a, b), 2},
		{"a conflict that is no data race", logOf(a, load(1, 0, 4, zero, -1)), 2},
		{"a Load ahead of a Store", logOf(load(1, 0, 4, zero, -1), a), 2},
		{"events ahead of them", logOf(sync(0), sync(1), store(2, 1, 0, 1), a, b), 5},
		{"events between them", logOf(a, sync(0), sync(1), b), 4},
		{"events behind them", logOf(a, b, sync(0), sync(1)), 2},
		{"one agent", logOf(a, a, a), -1},
		{"a pair", with(logOf(a, b), [2]int{0, 1}), -1},
		{"Seq events", logOf(seq(a), seq(b), seq(a), seq(b)), -1},
		{"a plain one among Seq events", logOf(seq(a), seq(b), seq(a), b, seq(a)), 4},
		{"the later pair is the first to end", logOf(a, store(2, 1, 0, 1), store(3, 1, 0, 1), b), 3},
		{"the later pair is the first to begin and to end", logOf(store(2, 1, 0, 1), a, b, store(3, 1, 0, 1)), 3},
		{"many in one", logOf(store(0, 0, 0, 1), store(1, 0, 1, 1), store(2, 0, 2, 1), store(3, 0, 0, 1, 1, 1)), 4},
		{"with the last event", logOf(a, store(0, 0, 4, 2), seq(store(0, 0, 4, 3)), load(1, 1, 4, zero, -1), load(1, 0, 4, zero, -1)), 5},
	} {
		if got := race.First(c.l); got != c.want {
			t.Errorf("%s: First = %d, want %d", c.name, got, c.want)
		}
	}
}

func TestP17_2_ManyLogs(t *testing.T) {
	r, counts := rand.New(rand.NewSource(3)), map[int]int{}
	for range 3000 {
		l := randomLog(r, r.Intn(16))
		want := firstByTheBook(l)
		if got := race.First(l); got != want {
			t.Fatalf("First(%v) = %d, want %d", l, got, want)
		}
		counts[want]++
	}
	for _, n := range []int{-1, 2, 3, 4, 5, 6, 7, 8} {
		if counts[n] < 20 {
			t.Errorf("First was %d only %d times", n, counts[n])
		}
	}
}

func TestP17_2_FullLogs(t *testing.T) {
	if got := race.First(fullLog()); got != 2 {
		t.Errorf("First = %d, want 2", got)
	}
	l := event.Log{}
	for n := range 1000 {
		l.Events = append(l.Events, seq(store(n%64, 0, 248, 1, 2, 3, 4, 5, 6, 7, 8)))
	}
	if got := race.First(l); got != -1 {
		t.Errorf("First of Seq events = %d, want -1", got)
	}
	l.Events[999].Seq = false
	if got := race.First(l); got != 1000 {
		t.Errorf("First = %d, want 1000", got)
	}
}
