package rel_test

import (
	"math"
	"testing"

	"rendezvous/event"
)

// Of a log that is not valid, every relation is empty and has no events.
func TestP15_1_InvalidLogs(t *testing.T) {
	for name, spoil := range map[string]func(l *event.Log){
		"an agent":             func(l *event.Log) { l.Events[0].Agent = 64 },
		"an agent below 0":     func(l *event.Log) { l.Events[0].Agent = -1 },
		"a kind":               func(l *event.Log) { l.Events[7].Kind = 4 },
		"a Sync with a size":   func(l *event.Log) { l.Events[1].Size = 1 },
		"a Sync that reads":    func(l *event.Log) { l.Events[1].From = []int{0} },
		"a block":              func(l *event.Log) { l.Events[6].Block = 16 },
		"a size":               func(l *event.Log) { l.Events[0].Size = 7 },
		"a byte too few":       func(l *event.Log) { l.Events[2].Read = l.Events[2].Read[1:] },
		"a plain Change":       func(l *event.Log) { l.Events[3].Seq = false },
		"a byte read":          func(l *event.Log) { l.Events[2].Read[1]++ },
		"a far From":           func(l *event.Log) { l.Events[7].From[0] = math.MaxInt },
		"a From far below":     func(l *event.Log) { l.Events[7].From[0] = math.MinInt },
		"a From of -2":         func(l *event.Log) { l.Events[7].From[0] = -2 },
		"a From of a later":    func(l *event.Log) { l.Events[2].From[1] = 3 },
		"a From of itself":     func(l *event.Log) { l.Events[7].From[0] = 7 },
		"a Store with a From":  func(l *event.Log) { l.Events[0].From = []int{0} },
		"a pair back":          func(l *event.Log) { l.Pairs[0] = [2]int{1, 0} },
		"a pair of one event":  func(l *event.Log) { l.Pairs[0] = [2]int{1, 1} },
		"a pair from -1":       func(l *event.Log) { l.Pairs[0] = [2]int{-1, 1} },
		"a pair to the end":    func(l *event.Log) { l.Pairs[3] = [2]int{1, 8} },
		"a pair to far away":   func(l *event.Log) { l.Pairs[3] = [2]int{math.MinInt, math.MaxInt} },
		"a pair and no events": func(l *event.Log) { l.Events = nil },
		"1001 events":          func(l *event.Log) { l.Events = append(l.Events, make([]event.Event, 993)...) },
		"1001 pairs":           func(l *event.Log) { l.Pairs = append(l.Pairs, make([][2]int, 997)...) },
	} {
		l := sample()
		if spoil(&l); event.May(l) {
			t.Fatalf("%s: the log is valid", name)
		}
		for kind, relate := range relations() {
			r := relate(l)
			checkList(t, kind+", "+name, r, 0)
			for range r.Pairs() {
				t.Errorf("%s, %s: yields a pair", kind, name)
			}
			for _, n := range edges() {
				if r.Has(n, 0) || r.Has(0, n) || r.Has(n, n) {
					t.Errorf("%s, %s: has %d", kind, name, n)
				}
			}
		}
	}
}
