package race_test

import (
	"math/rand"
	"slices"
	"testing"

	"rendezvous/event"
	"rendezvous/race"
)

// checkLists holds a log to its conflicts, its data races and its shortest head with one, by all calls.
func checkLists(t *testing.T, name string, l event.Log, conflicts, datas [][2]int, first int) {
	t.Helper()
	if got := race.Conflicts(l); !slices.Equal(got, conflicts) {
		t.Errorf("%s: Conflicts = %v, want %v", name, got, conflicts)
	}
	if got := race.Datas(l); !slices.Equal(got, datas) {
		t.Errorf("%s: Datas = %v, want %v", name, got, datas)
	}
	if got := race.First(l); got != first {
		t.Errorf("%s: First = %d, want %d", name, got, first)
	}
	for a := range l.Events {
		for b := range l.Events {
			pair := [2]int{min(a, b), max(a, b)}
			if race.Conflict(l, a, b) != slices.Contains(conflicts, pair) || race.Data(l, a, b) != slices.Contains(datas, pair) {
				t.Errorf("%s: Conflict(%d, %d) = %v, Data %v", name, a, b, race.Conflict(l, a, b), race.Data(l, a, b))
			}
		}
	}
}

func TestP17_1_Sample(t *testing.T) {
	checkLists(t, "a sample", sample(), sampleConflicts(), sampleDatas(), 4)
	checkLists(t, "no events", event.Log{}, nil, nil, -1)
}

// The pairs come in the order of the earlier event, then of the later one.
func TestP17_1_Order(t *testing.T) {
	zero := []byte{0}
	l := logOf(store(0, 0, 0, 1), load(1, 0, 0, zero, -1), store(2, 0, 0, 2), load(0, 0, 0, zero, -1), load(3, 0, 0, []byte{1}, 0))
	checkLists(t, "five events", l, [][2]int{{0, 1}, {0, 2}, {0, 4}, {1, 2}, {2, 3}, {2, 4}}, [][2]int{{0, 2}, {0, 4}}, 2)
	// Only agents 0 and 1 have several events.
	l = logOf(store(0, 0, 0, 1), store(1, 0, 1, 1), store(0, 0, 1, 1), store(1, 0, 0, 1), store(2, 0, 0, 1, 1))
	want := [][2]int{{0, 3}, {0, 4}, {1, 2}, {1, 4}, {2, 4}, {3, 4}}
	checkLists(t, "three agents", l, want, want, 3)
}

func TestP17_1_ManyLists(t *testing.T) {
	r, found, clean, mixed := rand.New(rand.NewSource(2)), 0, 0, 0
	for range 4000 {
		l := randomLog(r, r.Intn(16))
		conflicts, datas := listByTheBook(conflictsByTheBook(l), len(l.Events)), listByTheBook(datasByTheBook(l), len(l.Events))
		if got := race.Conflicts(l); !slices.Equal(got, conflicts) {
			t.Fatalf("Conflicts(%v) = %v, want %v", l, got, conflicts)
		}
		if got := race.Datas(l); !slices.Equal(got, datas) {
			t.Fatalf("Datas(%v) = %v, want %v", l, got, datas)
		}
		switch {
		case len(conflicts) == 0:
			clean++
		case len(conflicts) == len(datas):
			found++
		default:
			mixed++
		}
	}
	if min(found, clean, mixed) < 300 {
		t.Errorf("%d logs without a conflict, %d of data races, %d of others too", clean, found, mixed)
	}
}

// fullLog has as many events and pairs as there may be: plain Stores to one range, by all agents in turn.
func fullLog() event.Log {
	l := event.Log{}
	for n := range 1000 {
		l.Events = append(l.Events, store(n%64, 0, 248, 1, 2, 3, 4, 5, 6, 7, 8))
	}
	for n := range 1000 {
		l.Pairs = append(l.Pairs, [2]int{n % 2, 999})
	}
	return l
}

func TestP17_1_FullLogs(t *testing.T) {
	var want [][2]int
	for a := range 1000 {
		for b := a + 1; b < 1000; b++ {
			// The last event also comes after the first two, and so after no others but its agent's.
			if a%64 != b%64 && (a > 1 || b != 999) {
				want = append(want, [2]int{a, b})
			}
		}
	}
	l := fullLog()
	if got := race.Conflicts(l); !slices.Equal(got, want) {
		t.Errorf("%d conflicts, want %d", len(got), len(want))
	}
	if got := race.Datas(l); !slices.Equal(got, want) {
		t.Errorf("%d data races, want %d", len(got), len(want))
	}
	if !race.Conflict(l, 999, 2) || race.Conflict(l, 999, 1) || !race.Data(l, 2, 999) || race.Data(l, 0, 999) {
		t.Error("of the last event")
	}
	// Without pairs, all of the agents' events are apart.
	if got := len(race.Conflicts(event.Log{Events: l.Events})); got != len(want)+2 {
		t.Errorf("%d conflicts without pairs, want %d", got, len(want)+2)
	}
}
