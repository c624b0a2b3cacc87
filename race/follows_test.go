package race_test

import (
	"math/rand"
	"slices"
	"testing"

	"rendezvous/event"
	"rendezvous/race"
)

// randomLogs has the sample, a log without events, and random ones.
func randomLogs(seed int64, count, n int) []event.Log {
	r := rand.New(rand.NewSource(seed))
	logs := []event.Log{{}, sample()}
	for range count {
		logs = append(logs, randomLog(r, r.Intn(n)))
	}
	return logs
}

func TestP17_3_DataRacesAreConflicts(t *testing.T) {
	found := 0
	for _, l := range randomLogs(4, 1000, 30) {
		conflicts := race.Conflicts(l)
		for _, p := range race.Datas(l) {
			if found++; !slices.Contains(conflicts, p) {
				t.Fatalf("%v: %v is a data race, but no conflict", l, p)
			}
		}
		for a := range l.Events {
			for b := range l.Events {
				if race.Data(l, a, b) && !race.Conflict(l, a, b) {
					t.Fatalf("%v: (%d, %d) is a data race, but no conflict", l, a, b)
				}
			}
		}
	}
	if found < 1000 {
		t.Errorf("only %d data races", found)
	}
}

func TestP17_3_EitherWayRound(t *testing.T) {
	found := 0
	for _, l := range randomLogs(5, 1000, 20) {
		for a := range l.Events {
			for b := range l.Events {
				if race.Conflict(l, a, b) != race.Conflict(l, b, a) || race.Data(l, a, b) != race.Data(l, b, a) {
					t.Fatalf("%v: %d and %d, or %d and %d", l, a, b, b, a)
				}
				if race.Data(l, a, b) {
					found++
				}
			}
		}
	}
	if found < 1000 {
		t.Errorf("only %d data races", found)
	}
}

// among keeps the pairs of the first n events.
func among(pairs [][2]int, n int) [][2]int {
	return slices.DeleteFunc(slices.Clone(pairs), func(p [2]int) bool { return p[1] >= n })
}

func TestP17_3_Heads(t *testing.T) {
	for _, l := range randomLogs(6, 250, 20) {
		conflicts, datas, first := race.Conflicts(l), race.Datas(l), race.First(l)
		for n := -1; n <= len(l.Events)+1; n++ {
			head, has := event.Head(l, n), first >= 0 && first <= n
			if got := race.Conflicts(head); !slices.Equal(got, among(conflicts, n)) || len(got) > 0 != has {
				t.Fatalf("Head(%v, %d): Conflicts = %v, First of the log = %d", l, n, got, first)
			}
			if got := race.Datas(head); !slices.Equal(got, among(datas, n)) {
				t.Fatalf("Head(%v, %d): Datas = %v", l, n, got)
			}
			if got := race.First(head); has && got != first || !has && got != -1 {
				t.Fatalf("Head(%v, %d): First = %d, of the log %d", l, n, got, first)
			}
			for a := range len(head.Events) {
				for b := range len(head.Events) {
					if race.Conflict(head, a, b) != race.Conflict(l, a, b) || race.Data(head, a, b) != race.Data(l, a, b) {
						t.Fatalf("Head(%v, %d): (%d, %d)", l, n, a, b)
					}
				}
			}
		}
	}
}
