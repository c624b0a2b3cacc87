package event_test

import (
	"math"
	"math/rand"
	"slices"
	"testing"

	"rendezvous/event"
)

func TestP14_3_Head(t *testing.T) {
	pairs := [][][2]int{{}, {}, {{0, 1}}, {{0, 1}, {1, 2}, {1, 2}}, {{0, 1}, {1, 2}, {1, 2}}, {{0, 1}, {1, 2}, {1, 2}, {3, 4}}, {{0, 1}, {1, 2}, {1, 2}, {3, 4}}, {{0, 1}, {1, 2}, {1, 2}, {3, 4}}, sample().Pairs}
	for n, want := range pairs {
		l := sample()
		head := event.Head(l, n)
		if !sameByTheBook(head, event.Log{Events: l.Events[:n], Pairs: want}) {
			t.Errorf("Head(%d) = %v", n, head)
		}
	}
	for _, n := range edges() {
		if got := event.Head(sample(), n); !sameByTheBook(got, headByTheBook(sample(), n)) {
			t.Errorf("Head(%d) = %v", n, got)
		}
		if got := event.Head(event.Log{}, n); len(got.Events)+len(got.Pairs) > 0 {
			t.Errorf("Head(%d) of nothing = %v", n, got)
		}
	}
	// The example of the chapter.
	l := event.Log{Events: []event.Event{store(0, 0, 0, 1, 2), load(1, 0, 1, []byte{2}, 0)}}
	if head := event.Head(l, 1); !sameByTheBook(head, one(l.Events[0])) {
		t.Errorf("the first one: %v", head)
	}
}

// Logs that are not valid have heads as well; pairs that lead elsewhere are not among the events.
func TestP14_3_HeadOfInvalid(t *testing.T) {
	l := event.Log{
		Events: []event.Event{{Agent: -1, Kind: 9, From: []int{5}}, load(0, 0, 0, []byte{1}, 77), {Size: -3, Wrote: []byte{1}}},
		Pairs:  [][2]int{{1, 0}, {0, 0}, {-1, 1}, {1, -1}, {0, 3}, {3, 0}, {2, 1}, {math.MinInt, 0}, {0, math.MaxInt}, {1, 2}},
	}
	want := [][][2]int{{}, {{0, 0}}, {{1, 0}, {0, 0}}, {{1, 0}, {0, 0}, {2, 1}, {1, 2}}, {{1, 0}, {0, 0}, {2, 1}, {1, 2}}}
	for n, pairs := range want {
		if head := event.Head(l, n); !sameByTheBook(head, event.Log{Events: l.Events[:min(n, 3)], Pairs: pairs}) {
			t.Errorf("Head(%d) = %v", n, head)
		}
	}
	if head := event.Head(event.Log{Pairs: [][2]int{{0, 1}, {0, 0}}}, 5); len(head.Events)+len(head.Pairs) > 0 {
		t.Errorf("no events: %v", head)
	}
}

func checkSame(t *testing.T, name string, a, b event.Log, want bool) {
	t.Helper()
	if event.Same(a, b) != want || event.Same(b, a) != want {
		t.Errorf("%s: Same = %v, %v; want %v", name, event.Same(a, b), event.Same(b, a), want)
	}
}

func TestP14_3_Same(t *testing.T) {
	checkSame(t, "nothing", event.Log{}, event.Log{Events: []event.Event{}, Pairs: [][2]int{}}, true)
	checkSame(t, "the sample", sample(), sample(), true)
	checkSame(t, "the sample and nothing", sample(), event.Log{}, false)
	checkSame(t, "empty lists", one(event.Event{Kind: 9, Read: []byte{}, Wrote: []byte{}, From: []int{}}), one(event.Event{Kind: 9}), true)
	for _, n := range []int{0, 1, 3, 7} {
		for _, s := range fieldChanges(n) {
			l := sample()
			s.change(&l)
			checkSame(t, s.name, l, sample(), false)
			checkSame(t, s.name, l, deep(l), true)
		}
	}
}

// fieldChanges change one field of an event each.
func fieldChanges(n int) []spoil {
	changes := []spoil{
		{"Seq", func(l *event.Log) { l.Events[n].Seq = !l.Events[n].Seq }},
		{"NoTear", func(l *event.Log) { l.Events[n].NoTear = !l.Events[n].NoTear }},
		{"Read", func(l *event.Log) { l.Events[n].Read = append(l.Events[n].Read, 0) }},
		{"Wrote", func(l *event.Log) { l.Events[n].Wrote = append(l.Events[n].Wrote, 0) }},
		{"From", func(l *event.Log) { l.Events[n].From = append(l.Events[n].From, 0) }},
	}
	for _, by := range []int{1, -1, 256, 1 << 32, math.MinInt} {
		changes = append(changes,
			spoil{"Agent", func(l *event.Log) { l.Events[n].Agent += by }},
			spoil{"Kind", func(l *event.Log) { l.Events[n].Kind += by }},
			spoil{"Block", func(l *event.Log) { l.Events[n].Block += by }},
			spoil{"At", func(l *event.Log) { l.Events[n].At += by }},
			spoil{"Size", func(l *event.Log) { l.Events[n].Size += by }})
	}
	e := sample().Events[n]
	for i := range e.Read {
		changes = append(changes,
			spoil{"a byte of Read", func(l *event.Log) { l.Events[n].Read[i]++ }},
			spoil{"Read cut off", func(l *event.Log) { l.Events[n].Read = l.Events[n].Read[:i] }},
			spoil{"a number of From", func(l *event.Log) { l.Events[n].From[i]++ }},
			spoil{"From cut off", func(l *event.Log) { l.Events[n].From = l.Events[n].From[:i] }})
	}
	for i := range e.Wrote {
		changes = append(changes,
			spoil{"a byte of Wrote", func(l *event.Log) { l.Events[n].Wrote[i]++ }},
			spoil{"Wrote cut off", func(l *event.Log) { l.Events[n].Wrote = l.Events[n].Wrote[:i] }})
	}
	return changes
}

func TestP14_3_SameLists(t *testing.T) {
	for i, change := range []func(l *event.Log){
		func(l *event.Log) { l.Events = l.Events[:7] },
		func(l *event.Log) { l.Events = l.Events[1:] },
		func(l *event.Log) { l.Events = append(l.Events, event.Event{}) },
		func(l *event.Log) { l.Events = nil },
		func(l *event.Log) { l.Events[4], l.Events[6] = l.Events[6], l.Events[4] },
		func(l *event.Log) { l.Events[1], l.Events[7] = l.Events[7], l.Events[1] },
		func(l *event.Log) { l.Pairs = l.Pairs[:5] },
		func(l *event.Log) { l.Pairs = l.Pairs[1:] },
		func(l *event.Log) { l.Pairs = nil },
		func(l *event.Log) { l.Pairs = append(l.Pairs, [2]int{0, 1}) },
		func(l *event.Log) { l.Pairs[0], l.Pairs[1] = l.Pairs[1], l.Pairs[0] },
		func(l *event.Log) { slices.Reverse(l.Pairs) },
		func(l *event.Log) { l.Pairs[0][0]++ },
		func(l *event.Log) { l.Pairs[0][1]++ },
		func(l *event.Log) { l.Pairs[5][0]-- },
		func(l *event.Log) { l.Pairs[5][1]-- },
		func(l *event.Log) { l.Pairs[3] = [2]int{2, 1} },
	} {
		l := sample()
		change(&l)
		checkSame(t, "a log with a change", l, sample(), false)
		if !event.Same(l, deep(l)) {
			t.Errorf("change %d: not the same as its copy", i)
		}
	}
}

func TestP14_3_ManyLogs(t *testing.T) {
	r, alike := rand.New(rand.NewSource(3)), 0
	for range 10000 {
		l := randomLog(r, r.Intn(12))
		for range r.Intn(3) {
			l = spoiled(r, l)
		}
		n := r.Intn(16) - 2
		if got := event.Head(l, n); !sameByTheBook(got, headByTheBook(l, n)) {
			t.Fatalf("Head(%v, %d) = %v", l, n, got)
		}
		other := spoiled(r, l)
		if want := sameByTheBook(l, other); event.Same(l, other) != want || event.Same(other, l) != want {
			t.Fatalf("Same(%v, %v) is not %v", l, other, want)
		} else if want {
			alike++
		}
	}
	if alike < 500 || alike > 9500 {
		t.Errorf("%d logs are the same", alike)
	}
}
