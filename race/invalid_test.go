package race_test

import (
	"testing"

	"rendezvous/event"
	"rendezvous/race"
)

func TestP17_1_InvalidLogs(t *testing.T) {
	for name, spoil := range spoils() {
		l := sample()
		if spoil(&l); event.May(l) {
			t.Fatalf("%s: the log is valid", name)
		}
		if a, b := race.Conflicts(l), race.Datas(l); len(a)+len(b) > 0 {
			t.Errorf("%s: Conflicts %v, Datas %v", name, a, b)
		}
		for _, a := range edges() {
			for _, b := range edges() {
				if race.Conflict(l, a, b) || race.Data(l, a, b) {
					t.Errorf("%s: (%d, %d)", name, a, b)
				}
			}
		}
		for _, p := range sampleConflicts() {
			if race.Conflict(l, p[0], p[1]) || race.Data(l, p[0], p[1]) {
				t.Errorf("%s: %v", name, p)
			}
		}
	}
}

// A log that is not valid has no First, though its first events are a valid log with a conflict.
func TestP17_2_InvalidLogs(t *testing.T) {
	for name, spoil := range spoils() {
		l := sample()
		if spoil(&l); race.First(l) != -1 {
			t.Errorf("%s: First = %d", name, race.First(l))
		}
	}
	l := logOf(store(0, 0, 0, 1), store(1, 0, 0, 2), event.Event{Kind: 9})
	if race.First(l) != -1 || race.Conflict(l, 0, 1) || race.Data(l, 0, 1) || race.First(event.Head(l, 2)) != 2 {
		t.Errorf("a wrong event after a conflict: First = %d", race.First(l))
	}
}
