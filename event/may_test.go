package event_test

import (
	"math"
	"math/rand"
	"testing"

	"rendezvous/api"
	"rendezvous/event"
)

func checkMay(t *testing.T, name string, l event.Log, want bool) {
	t.Helper()
	if got := event.May(l); got != want {
		t.Errorf("%s: May = %v", name, got)
	}
}

func TestP14_2_Valid(t *testing.T) {
	checkMay(t, "the sample", sample(), true)
	checkMay(t, "no events", event.Log{}, true)
	checkMay(t, "no events, empty lists", event.Log{Events: []event.Event{}, Pairs: [][2]int{}}, true)
	checkMay(t, "a Sync", one(event.Event{}), true)
	checkMay(t, "a Sync with empty lists", one(event.Event{Agent: 5, Read: []byte{}, Wrote: []byte{}, From: []int{}}), true)
	checkMay(t, "a Load with empty lists", one(event.Event{Kind: event.Load, Size: 1, Read: []byte{0}, Wrote: []byte{}, From: []int{-1}}), true)
	checkMay(t, "a Store with empty lists", one(event.Event{Kind: event.Store, Size: 1, Read: []byte{}, Wrote: []byte{0}, From: []int{}}), true)
	for _, agent := range []int{0, 1, 62, 63} {
		for _, block := range []int{0, 1, 14, 15} {
			for size := 1; size <= 8; size++ {
				for _, at := range []int{0, 1, 255 - size, 256 - size} {
					checkValidEvents(t, agent, block, at, size)
				}
			}
		}
	}
}

// checkValidEvents has each kind of event at one range, reading the zeros, then the bytes of a Store, then those of a Change.
func checkValidEvents(t *testing.T, agent, block, at, size int) {
	t.Helper()
	nought, ones, twos := make([]byte, size), make([]byte, size), make([]byte, size)
	initial, first, second := make([]int, size), make([]int, size), make([]int, size)
	for i := range size {
		ones[i], twos[i], initial[i], first[i], second[i] = 1, 2, -1, 0, 1
	}
	checkMay(t, "one Store", one(store(agent, block, at, ones...)), true)
	checkMay(t, "one Load", one(load(agent, block, at, nought, initial...)), true)
	checkMay(t, "one Change", one(change(agent, block, at, nought, ones, initial...)), true)
	for _, seq := range []bool{false, true} {
		for _, noTear := range []bool{false, true} {
			all := []event.Event{store(agent, block, at, ones...), change(agent, block, at, ones, twos, first...), load(agent, block, at, twos, second...), load(agent, block, at, ones, first...), load(agent, block, at, nought, initial...)}
			for _, n := range []int{0, 2, 3, 4} {
				all[n].Seq, all[n].NoTear = seq, noTear
			}
			checkMay(t, "one after another", event.Log{Events: all}, true)
		}
	}
}

func TestP14_2_Counts(t *testing.T) {
	l := event.Log{Events: make([]event.Event, api.MaxEvents)}
	checkMay(t, "MaxEvents events", l, true)
	l.Events = append(l.Events, event.Event{})
	checkMay(t, "more events", l, false)
	l = event.Log{Events: make([]event.Event, 2)}
	for range api.MaxEvents {
		l.Pairs = append(l.Pairs, [2]int{0, 1})
	}
	checkMay(t, "MaxEvents pairs", l, true)
	l.Pairs = append(l.Pairs, [2]int{0, 1})
	checkMay(t, "more pairs", l, false)
	checkMay(t, "far more events", event.Log{Events: make([]event.Event, 200000)}, false)
	checkMay(t, "far more pairs", event.Log{Events: make([]event.Event, 2), Pairs: make([][2]int, 200000)}, false)
}

// checkSpoils makes one change at a time, each of which breaks the rule that it is named after.
func checkSpoils(t *testing.T, spoils []spoil) {
	t.Helper()
	for i, s := range spoils {
		l := sample()
		s.change(&l)
		if why := fault(l); why != s.name {
			t.Errorf("case %d breaks %q and not %q", i, why, s.name)
		}
		checkMay(t, s.name, l, s.name == "")
	}
}

func TestP14_2_AgentsAndKinds(t *testing.T) {
	for n := range sample().Events {
		for _, x := range edges() {
			for _, s := range []spoil{{"agent", func(l *event.Log) { l.Events[n].Agent = x }}, {"kind", func(l *event.Log) { l.Events[n].Kind = x }}} {
				l := sample()
				if s.change(&l); (x < 0 || x > 63) && fault(l) != s.name {
					t.Errorf("event %d: %d as %s breaks %q", n, x, s.name, fault(l))
				}
				checkMay(t, s.name, l, fault(l) == "")
			}
		}
	}
	checkMay(t, "kind 4", one(event.Event{Kind: 4}), false)
	checkMay(t, "kind -1", one(event.Event{Kind: -1}), false)
	for _, kind := range []int{-1, 4, 5, 7} {
		e := change(0, 0, 0, []byte{0}, []byte{1}, -1)
		e.Kind = kind
		checkMay(t, "a Change of another kind", one(e), false)
	}
}

func TestP14_2_Syncs(t *testing.T) {
	checkSpoils(t, []spoil{
		{"", func(l *event.Log) { l.Events[1].Agent = 0 }},
		{"sync", func(l *event.Log) { l.Events[1].Seq = true }},
		{"sync", func(l *event.Log) { l.Events[1].NoTear = true }},
		{"sync", func(l *event.Log) { l.Events[1].Block = 1 }},
		{"sync", func(l *event.Log) { l.Events[1].Block = -1 }},
		{"sync", func(l *event.Log) { l.Events[1].At = 1 }},
		{"sync", func(l *event.Log) { l.Events[1].At = -1 }},
		{"sync", func(l *event.Log) { l.Events[1].Size = 1 }},
		{"sync", func(l *event.Log) { l.Events[1].Size = -1 }},
		{"sync", func(l *event.Log) { l.Events[1].Read = []byte{0} }},
		{"sync", func(l *event.Log) { l.Events[1].Wrote = []byte{0} }},
		{"sync", func(l *event.Log) { l.Events[1].From = []int{-1} }},
		{"sync", func(l *event.Log) {
			e := &l.Events[1]
			e.Size, e.Read, e.From = 1, []byte{0}, []int{-1}
		}},
	})
}

func TestP14_2_Ranges(t *testing.T) {
	for _, x := range edges() {
		for size := 1; size <= 8; size++ {
			for _, kind := range []int{event.Load, event.Store, event.Change} {
				checkMay(t, "block", one(alone(kind, x, 0, size)), x >= 0 && x <= 15)
				checkMay(t, "at", one(alone(kind, 0, x, size)), x >= 0 && x <= 256-size)
			}
		}
	}
	for size := range 20 {
		for _, kind := range []int{event.Load, event.Store, event.Change} {
			checkMay(t, "size", one(alone(kind, 0, 0, size)), size >= 1 && size <= 8)
			checkMay(t, "size at the end", one(alone(kind, 15, 256-size, size)), size >= 1 && size <= 8)
		}
	}
	for _, size := range []int{math.MinInt, -8, -1, 0, 9, 16, math.MaxInt} {
		for _, kind := range []int{event.Load, event.Store, event.Change} {
			e := alone(kind, 0, 0, 0)
			e.Size = size
			checkMay(t, "size without bytes", one(e), false)
		}
	}
}

// alone is an event with all its bytes, which reads zeros.
func alone(kind, block, at, size int) event.Event {
	e := event.Event{Kind: kind, Seq: true, NoTear: true, Block: block, At: at, Size: size}
	for i := range size {
		if kind != event.Store {
			e.Read, e.From = append(e.Read, 0), append(e.From, -1)
		}
		if kind != event.Load {
			e.Wrote = append(e.Wrote, byte(i))
		}
	}
	return e
}

func TestP14_2_Lists(t *testing.T) {
	for kind := event.Load; kind <= event.Change; kind++ {
		reads, writes := kind != event.Store, kind != event.Load
		for size := 1; size <= 8; size++ {
			for n := range 10 {
				e := alone(kind, 0, 0, size)
				e.Read = make([]byte, n)
				checkMay(t, "as many bytes read", one(e), n == 0 && !reads || n == size && reads)
				e = alone(kind, 0, 0, size)
				e.Wrote = make([]byte, n)
				checkMay(t, "as many bytes written", one(e), n == 0 && !writes || n == size && writes)
				e = alone(kind, 0, 0, size)
				e.From = alone(event.Load, 0, 0, n).From
				checkMay(t, "as many numbers", one(e), n == 0 && !reads || n == size && reads)
				e.Read = make([]byte, n)
				checkMay(t, "as many bytes read and numbers", one(e), n == 0 && !reads || n == size && reads)
			}
		}
	}
	// A kind with what another kind has.
	for kind := event.Sync; kind <= event.Change; kind++ {
		for other := event.Load; other <= event.Change; other++ {
			e := alone(other, 0, 0, 2)
			e.Kind = kind
			checkMay(t, "another kind's lists", one(e), kind == other)
		}
	}
}

func TestP14_2_Changes(t *testing.T) {
	checkSpoils(t, []spoil{
		{"change", func(l *event.Log) { l.Events[3].Seq = false }},
		{"change", func(l *event.Log) { l.Events[3].NoTear = false }},
		{"change", func(l *event.Log) { l.Events[3].Seq, l.Events[3].NoTear = false, false }},
		{"", func(l *event.Log) { l.Events[7].Seq = false }},
		{"", func(l *event.Log) { l.Events[7].NoTear = true }},
		{"", func(l *event.Log) { l.Events[4].Seq = true }},
		{"", func(l *event.Log) { l.Events[4].NoTear = true }},
	})
}

func TestP14_2_From(t *testing.T) {
	checkSpoils(t, []spoil{
		// The initial zero is 0, but may be read wherever others have written.
		{"byte", func(l *event.Log) { l.Events[2].Read[0] = 1 }},
		{"byte", func(l *event.Log) { l.Events[6].Read[0] = 255 }},
		{"byte", func(l *event.Log) { l.Events[2].From[1] = -1 }},
		{"", func(l *event.Log) { l.Events[2].From[1], l.Events[2].Read[1] = -1, 0 }},
		{"", func(l *event.Log) { l.Events[7].From[0], l.Events[7].Read[0] = -1, 0 }},
		// The byte that is read is the one that was written.
		{"byte", func(l *event.Log) { l.Events[2].Read[1] = 2 }},
		{"byte", func(l *event.Log) { l.Events[2].Read[2] = 0 }},
		{"byte", func(l *event.Log) { l.Events[0].Wrote[1]++ }},
		{"byte", func(l *event.Log) { l.Events[0].Wrote[3]++ }},
		{"byte", func(l *event.Log) { l.Events[3].Wrote[0]++ }},
		{"byte", func(l *event.Log) { l.Events[3].Wrote[1]++ }},
		{"byte", func(l *event.Log) { l.Events[3].Read[1]-- }},
		{"byte", func(l *event.Log) { l.Events[5].Read[7] = 9 }},
		{"", func(l *event.Log) { l.Events[5].From[7], l.Events[5].Read[7] = 3, 9 }},
		{"", func(l *event.Log) { l.Events[5].From[7], l.Events[5].Read[7] = 0, 4 }},
		{"byte", func(l *event.Log) { l.Events[5].From[7] = 0 }},
		// The event wrote that byte of that block.
		{"from", func(l *event.Log) { l.Events[2].From[0] = 0 }},
		{"from", func(l *event.Log) { l.Events[5].From[3] = 0 }},
		{"from", func(l *event.Log) { l.Events[5].From[6] = 4 }},
		{"from", func(l *event.Log) { l.Events[5].From[5] = 3 }},
		{"from", func(l *event.Log) { l.Events[6].From[0] = 0 }},
		{"from", func(l *event.Log) { l.Events[2].Block = 3 }},
		{"from", func(l *event.Log) { l.Events[0].Block = 3 }},
		{"from", func(l *event.Log) { l.Events[2].At = 7 }},
		{"from", func(l *event.Log) { l.Events[4].At = 8 }},
		{"from", func(l *event.Log) { l.Events[4].At = 6 }},
		{"", func(l *event.Log) { l.Events[4].At, l.Events[4].Size, l.Events[4].Wrote = 6, 2, []byte{5, 8} }},
		{"", func(l *event.Log) { l.Events[4].Size, l.Events[4].Wrote = 2, []byte{8, 5} }},
		// The event writes at all.
		{"from", func(l *event.Log) { l.Events[2].From[1] = 1 }},
		{"from", func(l *event.Log) { l.Events[5].From[4] = 2 }},
		{"from", func(l *event.Log) { l.Events[5].From[4], l.Events[5].Read[4] = 2, 0 }},
		{"from", func(l *event.Log) { l.Events[6].From[0] = 1 }},
		// The event is an earlier one.
		{"from", func(l *event.Log) { l.Events[3].From[1] = 3 }},
		{"from", func(l *event.Log) { l.Events[3].From[1] = 4 }},
		{"from", func(l *event.Log) { l.Events[3].From[1], l.Events[3].Read[1], l.Events[3].Wrote[1] = 3, 9, 9 }},
		{"from", func(l *event.Log) { l.Events[3].From[1], l.Events[3].Read[1] = 4, 8 }},
		{"from", func(l *event.Log) { l.Events[7].From[0] = 7 }},
		{"from", func(l *event.Log) { l.Events[7].From[0] = 8 }},
		{"from", func(l *event.Log) { l.Events[6].From[0] = 9 }},
		{"from", func(l *event.Log) { l.Events[6].From[0] = -2 }},
		{"from", func(l *event.Log) { l.Events[6].From[0] = math.MinInt }},
		{"from", func(l *event.Log) { l.Events[6].From[0] = math.MaxInt }},
		{"from", func(l *event.Log) { l.Events[0], l.Events[2] = l.Events[2], l.Events[0] }},
	})
	checkMay(t, "a Change that reads itself", one(change(0, 0, 0, []byte{1}, []byte{1}, 0)), false)
}

// A later event that is good does not make up for one that is not.
func TestP14_2_EveryEventCounts(t *testing.T) {
	for n := range sample().Events {
		for _, bad := range []event.Event{{Agent: -1}, {Kind: 4}, {Seq: true}, load(0, 0, 0, []byte{1}, -1), load(0, 0, 0, []byte{0}, 8)} {
			l := sample()
			l.Events, l.Pairs = append(l.Events, bad), nil
			l.Events[n], l.Events[8] = l.Events[8], l.Events[n]
			checkMay(t, "a bad one", l, false)
		}
	}
}

func TestP14_2_Pairs(t *testing.T) {
	last := len(sample().Events) - 1
	for _, a := range append(edges(), last-1, last, last+1) {
		for _, b := range append(edges(), last-1, last, last+1) {
			for _, n := range []int{0, 2, 5} {
				l := sample()
				l.Pairs[n] = [2]int{a, b}
				checkMay(t, "a pair", l, a >= 0 && a < b && b <= last)
			}
		}
	}
	checkMay(t, "a pair of no events", event.Log{Pairs: [][2]int{{0, 1}}}, false)
	checkMay(t, "a pair of one event", event.Log{Events: make([]event.Event, 1), Pairs: [][2]int{{0, 0}}}, false)
	checkMay(t, "a pair of two events", event.Log{Events: make([]event.Event, 2), Pairs: [][2]int{{0, 1}}}, true)
}

func TestP14_2_ManyLogs(t *testing.T) {
	r, counts := rand.New(rand.NewSource(2)), map[string]int{}
	for range 20000 {
		l := randomLog(r, r.Intn(12))
		if why := fault(l); why != "" || !event.May(l) {
			t.Fatalf("%v: %s, May = %v", l, why, event.May(l))
		}
		for range 1 + r.Intn(2) {
			l = spoiled(r, l)
		}
		why := fault(l)
		if event.May(l) != (why == "") {
			t.Fatalf("%v: %q, May = %v", l, why, event.May(l))
		}
		counts[why]++
	}
	for _, why := range []string{"", "kind", "agent", "sync", "block", "size", "at", "lists", "change", "from", "byte", "pair"} {
		if counts[why] < 50 {
			t.Errorf("only %d logs break %q", counts[why], why)
		}
	}
}
