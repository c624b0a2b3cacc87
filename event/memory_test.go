package event_test

import (
	"math/rand"
	"reflect"
	"testing"

	"rendezvous/event"
)

// roomy copies a log into lists with spare capacity, which has items that are not those of the log.
func roomy(l event.Log) event.Log {
	l = deep(l)
	for i := range l.Events {
		e := &l.Events[i]
		e.Read, e.Wrote, e.From = room(e.Read, 7), room(e.Wrote, 7), room(e.From, 7)
	}
	return event.Log{Events: room(l.Events, event.Event{Agent: -7, Read: []byte{7}}), Pairs: room(l.Pairs, [2]int{7, -7})}
}

func room[T any](list []T, x T) []T {
	all := append(make([]T, 0, len(list)+3), list...)
	return append(all, x, x, x)[:len(list)]
}

// whole is a log with all spare capacity as if it were its own.
func whole(l event.Log) event.Log {
	all := event.Log{Events: append([]event.Event(nil), l.Events[:cap(l.Events)]...), Pairs: l.Pairs[:cap(l.Pairs)]}
	for i, e := range all.Events {
		all.Events[i].Read, all.Events[i].Wrote, all.Events[i].From = e.Read[:cap(e.Read)], e.Wrote[:cap(e.Wrote)], e.From[:cap(e.From)]
	}
	return deep(all)
}

// fill writes into a list and all its spare capacity, and appends to it.
func fill[T any](list []T, x T) {
	_ = append(list, x, x, x)
	list = list[:cap(list)]
	for i := range list {
		list[i] = x
	}
}

// destroy fills all lists of a log.
func destroy(l event.Log) {
	for _, e := range l.Events {
		fill(e.Read, 99)
		fill(e.Wrote, 99)
		fill(e.From, 99)
	}
	fill(l.Events, event.Event{Agent: 99})
	fill(l.Pairs, [2]int{99, 99})
}

func TestP14_4_ArgumentsAreLeft(t *testing.T) {
	r := rand.New(rand.NewSource(4))
	for range 500 {
		plain := randomLog(r, 1+r.Intn(10))
		if r.Intn(2) == 0 {
			plain = spoiled(r, plain)
		}
		a, b := roomy(plain), roomy(plain)
		wasA, wasB := whole(a), whole(b)
		// What lies beyond the lists counts for nothing.
		if event.May(a) != event.May(plain) || !event.Same(a, b) || !event.Same(a, plain) || !event.Same(event.Head(a, 4), event.Head(plain, 4)) || !event.Same(event.Head(a, 99), plain) && event.May(plain) {
			t.Fatalf("%v is not as without room", plain)
		}
		for _, e := range a.Events {
			for _, f := range b.Events {
				event.Equal(e, f)
				event.Overlap(e, f)
			}
			event.Reads(e)
			event.Writes(e)
		}
		if !reflect.DeepEqual(whole(a), wasA) || !reflect.DeepEqual(whole(b), wasB) {
			t.Fatalf("%v is changed", plain)
		}
	}
}

func TestP14_4_ArgumentsAreNotRetained(t *testing.T) {
	for n := -1; n <= 9; n++ {
		l := roomy(sample())
		head, want := event.Head(l, n), headByTheBook(sample(), n)
		for i := range l.Events {
			l.Events[i].Agent = 50
		}
		if destroy(l); !sameByTheBook(head, want) {
			t.Errorf("Head(%d) shares memory with its argument", n)
		}
	}
}

func TestP14_4_ResultsAreNewMemory(t *testing.T) {
	for n := -1; n <= 9; n++ {
		l := roomy(sample())
		first, second, want := event.Head(l, n), event.Head(l, n), headByTheBook(sample(), n)
		if destroy(first); !sameByTheBook(second, want) || !sameByTheBook(l, sample()) || !sameByTheBook(event.Head(l, n), want) {
			t.Errorf("what is written into Head(%d) is elsewhere", n)
		}
	}
}

// No list of a result shares memory with another one of the same result.
func TestP14_4_ListsOfOneResult(t *testing.T) {
	count := len(parts(event.Head(roomy(sample()), 9)))
	for k := range count {
		head := event.Head(roomy(sample()), 9)
		parts(head)[k]()
		changed := 0
		want, got := deep(sample()), deep(head)
		for i := range want.Events {
			if a, b := want.Events[i], got.Events[i]; !reflect.DeepEqual(a.Read, b.Read) {
				changed++
			} else if !reflect.DeepEqual(a.Wrote, b.Wrote) || !reflect.DeepEqual(a.From, b.From) {
				changed++
			}
		}
		if !reflect.DeepEqual(want.Pairs, got.Pairs) {
			changed++
		}
		if changed != 1 {
			t.Errorf("list %d: %d parts are changed", k, changed)
		}
	}
}

// parts has a call for each list of a log that is not empty, which fills it.
func parts(l event.Log) []func() {
	all := []func(){func() { fill(l.Pairs, [2]int{99, 99}) }}
	for _, e := range l.Events {
		if len(e.Read) > 0 {
			all = append(all, func() { fill(e.Read, 99) }, func() { fill(e.From, 99) })
		}
		if len(e.Wrote) > 0 {
			all = append(all, func() { fill(e.Wrote, 99) })
		}
	}
	return all
}

// A log whose events share their lists, as a caller may have built it, has a head whose events do not.
func TestP14_4_SharedArguments(t *testing.T) {
	bytes, from := []byte{0, 0, 0, 0, 0}, []int{-1, -1, -1}
	l := event.Log{Events: []event.Event{load(0, 0, 0, bytes[:2], from[:2]...), load(0, 0, 0, bytes[:2], from[:2]...), change(0, 0, 0, bytes[:2], bytes[2:4], from[1:]...)}}
	want := deep(l)
	head := event.Head(l, 3)
	fill(head.Events[0].Read, 99)
	fill(head.Events[0].From, 99)
	fill(head.Events[2].Read, 98)
	if head.Events[1].Read[0] != 0 || head.Events[1].From[1] != -1 || head.Events[2].From[0] != -1 || head.Events[2].Wrote[0] != 0 || !sameByTheBook(l, want) {
		t.Errorf("shared: %v of %v", head, l)
	}
}
