package rel_test

import (
	"math/rand"
	"slices"
	"testing"

	"rendezvous/event"
	"rendezvous/rel"
)

// checkList holds a relation to its pairs, in their order, by all its methods.
func checkList(t *testing.T, name string, r *rel.Rel, count int, want ...[2]int) {
	t.Helper()
	if got := r.List(); !slices.Equal(got, want) {
		t.Errorf("%s: %v, want %v", name, got, want)
	}
	if r.Len() != count {
		t.Errorf("%s: Len() = %d, want %d", name, r.Len(), count)
	}
	for a := -1; a <= count; a++ {
		for b := -1; b <= count; b++ {
			if r.Has(a, b) != slices.Contains(want, [2]int{a, b}) {
				t.Errorf("%s: Has(%d, %d) = %v", name, a, b, r.Has(a, b))
			}
		}
	}
}

func TestP15_1_Example(t *testing.T) {
	l := event.Log{Events: []event.Event{store(0, 0, 0, 1), seq(store(0, 0, 4, 1, 2)), seq(load(1, 0, 4, []byte{1, 2}, 1, 1))}}
	checkList(t, "From", rel.From(l), 3, [2]int{1, 2})
	checkList(t, "Sync", rel.Sync(l), 3, [2]int{1, 2})
	checkList(t, "Before", rel.Before(l), 3, [2]int{0, 1}, [2]int{0, 2}, [2]int{1, 2})
}

func TestP15_1_Sample(t *testing.T) {
	l := sample()
	checkList(t, "From", rel.From(l), 8, [2]int{0, 2}, [2]int{0, 3}, [2]int{0, 4}, [2]int{0, 5}, [2]int{3, 4}, [2]int{3, 5}, [2]int{3, 7})
	checkList(t, "Sync", rel.Sync(l), 8, [2]int{0, 1}, [2]int{1, 2}, [2]int{3, 4}, [2]int{6, 7})
	checkList(t, "Before", rel.Before(l), 8, [2]int{0, 1}, [2]int{0, 2}, [2]int{0, 5}, [2]int{0, 6}, [2]int{0, 7}, [2]int{1, 2},
		[2]int{3, 4}, [2]int{3, 7}, [2]int{5, 6}, [2]int{5, 7}, [2]int{6, 7})
}

func TestP15_1_FewEvents(t *testing.T) {
	for name, relate := range relations() {
		checkList(t, name+" of nothing", relate(event.Log{}), 0)
		checkList(t, name+" of empty lists", relate(event.Log{Events: []event.Event{}, Pairs: [][2]int{}}), 0)
		checkList(t, name+" of a Sync", relate(one(event.Event{Agent: 5})), 1)
		checkList(t, name+" of a Load of the initial zero", relate(one(load(5, 0, 0, []byte{0, 0}, -1, -1))), 1)
	}
}

// A read of several events synchronizes with each of them that is Seq and Equal, though none of them wrote all that it read.
func TestP15_1_TornReads(t *testing.T) {
	l := event.Log{Events: []event.Event{
		seq(store(0, 0, 0, 1, 1, 1)),
		seq(store(1, 0, 0, 2, 2, 2)),
		seq(store(2, 0, 1, 3, 3, 3)),
		store(3, 0, 0, 4, 4, 4),
		seq(load(4, 0, 0, []byte{2, 1, 3}, 1, 0, 2)),
		seq(load(5, 0, 0, []byte{4, 3, 1}, 3, 2, 0)),
		load(6, 0, 0, []byte{1, 1, 0}, 0, 0, -1),
	}}
	l.Events[6].Read[2] = 0
	checkList(t, "From", rel.From(l), 7, [2]int{0, 4}, [2]int{0, 5}, [2]int{0, 6}, [2]int{1, 4}, [2]int{2, 4}, [2]int{2, 5}, [2]int{3, 5})
	for _, relate := range []func(event.Log) *rel.Rel{rel.Sync, rel.Before} {
		checkList(t, "Sync and Before", relate(l), 7, [2]int{0, 4}, [2]int{0, 5}, [2]int{1, 4})
	}
}

// Two events synchronize only if both are Seq, and if Block, At and Size are one and the same.
func TestP15_1_WhatSynchronizes(t *testing.T) {
	for _, c := range []struct {
		name        string
		wrote, read event.Event
		want        bool
	}{
		{"Seq and Equal", seq(store(0, 15, 252, 1, 2, 3, 4)), seq(load(1, 15, 252, []byte{1, 2, 3, 4}, 0, 0, 0, 0)), true},
		{"one byte of it", seq(store(0, 0, 0, 1, 0)), seq(load(1, 0, 0, []byte{0, 0}, -1, 0)), true},
		{"a Change that reads", seq(store(0, 0, 0, 1)), change(1, 0, 0, []byte{1}, []byte{2}, 0), true},
		{"a Change that writes", change(0, 0, 0, []byte{0}, []byte{2}, -1), seq(load(1, 0, 0, []byte{2}, 0)), true},
		{"two Changes", change(0, 0, 0, []byte{0}, []byte{2}, -1), change(1, 0, 0, []byte{2}, []byte{2}, 0), true},
		{"a plain Store", store(0, 0, 0, 1), seq(load(1, 0, 0, []byte{1}, 0)), false},
		{"a plain Store, a Change", store(0, 0, 0, 1), change(1, 0, 0, []byte{1}, []byte{2}, 0), false},
		{"a plain Load", seq(store(0, 0, 0, 1)), load(1, 0, 0, []byte{1}, 0), false},
		{"both plain", store(0, 0, 0, 1), load(1, 0, 0, []byte{1}, 0), false},
		{"a shorter Load", seq(store(0, 0, 0, 1, 1)), seq(load(1, 0, 0, []byte{1}, 0)), false},
		{"a longer Load", seq(store(0, 0, 0, 1)), seq(load(1, 0, 0, []byte{1, 0}, 0, -1)), false},
		{"a later Load", seq(store(0, 0, 0, 1, 1)), seq(load(1, 0, 1, []byte{1, 0}, 0, -1)), false},
		{"an earlier Load", seq(store(0, 0, 1, 1, 1)), seq(load(1, 0, 0, []byte{0, 1}, -1, 0)), false},
	} {
		l := event.Log{Events: []event.Event{c.wrote, c.read}}
		checkList(t, c.name+": From", rel.From(l), 2, [2]int{0, 1})
		var want [][2]int
		if c.want {
			want = [][2]int{{0, 1}}
		}
		checkList(t, c.name+": Sync", rel.Sync(l), 2, want...)
		checkList(t, c.name+": Before", rel.Before(l), 2, want...)
		// Events of one agent are in Before anyway, by no Sync.
		l.Events[1].Agent = 0
		checkList(t, c.name+", one agent: Sync", rel.Sync(l), 2, want...)
		checkList(t, c.name+", one agent: Before", rel.Before(l), 2, [2]int{0, 1})
		// What did not read from the Store does not synchronize with it.
		for i := range l.Events[1].Read {
			l.Events[1].Read[i], l.Events[1].From[i] = 0, -1
		}
		checkList(t, c.name+", not from it: From", rel.From(l), 2)
		checkList(t, c.name+", not from it: Sync", rel.Sync(l), 2)
	}
}

// The pairs of the log are in Sync and Before whatever the events are, and not in From.
func TestP15_1_PairsOfTheLog(t *testing.T) {
	l := event.Log{
		Events: []event.Event{{Agent: 0}, store(1, 0, 0, 1), load(2, 1, 0, []byte{0}, -1), {Agent: 3}, {Agent: 0}},
		Pairs:  [][2]int{{2, 3}, {0, 1}, {0, 1}, {1, 3}},
	}
	checkList(t, "From", rel.From(l), 5)
	checkList(t, "Sync", rel.Sync(l), 5, [2]int{0, 1}, [2]int{1, 3}, [2]int{2, 3})
	checkList(t, "Before", rel.Before(l), 5, [2]int{0, 1}, [2]int{0, 3}, [2]int{0, 4}, [2]int{1, 3}, [2]int{2, 3})
}

// One agent has all its pairs in Before; two of them that do nothing together have none between them.
func TestP15_1_Agents(t *testing.T) {
	for _, n := range []int{2, 63, 64, 65, 128, 200} {
		l := event.Log{Events: make([]event.Event, n)}
		r := rel.Before(l)
		if pairs := len(r.List()); pairs != n*(n-1)/2 || !r.Has(0, n-1) || r.Has(n-1, n-1) || r.Has(n-1, 0) {
			t.Errorf("%d events of one agent have %d pairs", n, pairs)
		}
		for i := range n {
			l.Events[i].Agent = i % 64
		}
		r = rel.Before(l)
		for a := range n {
			for b := range n {
				if r.Has(a, b) != (a < b && a%64 == b%64) {
					t.Errorf("%d events of 64 agents: Has(%d, %d) = %v", n, a, b, r.Has(a, b))
				}
			}
		}
	}
}

// As many events and pairs as there may be, in one chain over all agents.
func TestP15_1_TheLongestChain(t *testing.T) {
	l := event.Log{Events: make([]event.Event, 1000), Pairs: make([][2]int, 1000)}
	for i := range 999 {
		l.Events[i].Agent = i % 64
		l.Pairs[998-i] = [2]int{i, i + 1}
	}
	l.Pairs[999] = [2]int{0, 999}
	for name, want := range map[string]int{"From": 0, "Sync": 1000, "Before": 1000 * 999 / 2} {
		r := relations()[name](l)
		if got := len(r.List()); got != want || r.Len() != 1000 || r.Has(0, 999) != (want > 0) || r.Has(999, 0) {
			t.Errorf("%s has %d pairs of %d events", name, got, r.Len())
		}
	}
}

func TestP15_1_ManyLogs(t *testing.T) {
	r, counts := rand.New(rand.NewSource(1)), map[string]int{}
	for range 2500 {
		l := randomLog(r, r.Intn(20))
		if r.Intn(100) == 0 {
			l = randomLog(r, 60+r.Intn(80))
		}
		for name, relate := range relations() {
			want := listByTheBook(byTheBook()[name](l), len(l.Events))
			if got := relate(l); !slices.Equal(got.List(), want) || got.Len() != len(l.Events) {
				t.Fatalf("%s(%v) = %v, want %v", name, l, got.List(), want)
			}
			counts[name] += len(want)
		}
		for p := range syncByTheBook(event.Log{Events: l.Events}) {
			if !slices.Contains(l.Pairs, p) {
				counts["synchronize"]++
			}
		}
	}
	if counts["From"] < 5000 || counts["Sync"] < 5000 || counts["Before"] < 50000 || counts["synchronize"] < 1000 {
		t.Errorf("too few pairs: %v", counts)
	}
}
