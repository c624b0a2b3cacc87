package rel_test

import (
	"math/rand"
	"reflect"
	"slices"
	"testing"

	"rendezvous/event"
)

// roomy copies a log into lists with spare capacity, which has items that are not those of the log.
func roomy(l event.Log) event.Log {
	l = deep(l)
	for i := range l.Events {
		e := &l.Events[i]
		e.Read, e.Wrote, e.From = room(e.Read, 7), room(e.Wrote, 7), room(e.From, 0)
	}
	return event.Log{Events: room(l.Events, event.Event{Agent: -7, Read: []byte{7}}), Pairs: room(l.Pairs, [2]int{0, 1})}
}

func room[T any](list []T, x T) []T {
	all := append(make([]T, 0, len(list)+3), list...)
	return append(all, x, x, x)[:len(list)]
}

// whole is a log with all spare capacity as if it were its own.
func whole(l event.Log) event.Log {
	all := event.Log{Events: append([]event.Event(nil), l.Events[:cap(l.Events)]...), Pairs: l.Pairs[:cap(l.Pairs)]}
	for i, e := range all.Events {
		all.Events[i].Read, all.Events[i].Wrote, all.Events[i].From = e.Read[:cap(e.Read)], e.Wrote[:cap(e.Wrote)], e.From[:cap(e.From)]
	}
	return deep(all)
}

func fill[T any](list []T, x T) {
	_ = append(list, x, x, x)
	list = list[:cap(list)]
	for i := range list {
		list[i] = x
	}
}

// destroy fills all lists of a log, and all their spare capacity.
func destroy(l event.Log) {
	for _, e := range l.Events {
		fill(e.Read, 99)
		fill(e.Wrote, 99)
		fill(e.From, 99)
	}
	fill(l.Events, event.Event{Agent: 99})
	fill(l.Pairs, [2]int{99, 99})
}

func TestP0_4_ArgumentsAreLeft(t *testing.T) {
	r := rand.New(rand.NewSource(6))
	for range 200 {
		plain := randomLog(r, r.Intn(20))
		l := roomy(plain)
		was := whole(l)
		for name, relate := range relations() {
			if got, want := relate(l).List(), relate(plain).List(); !slices.Equal(got, want) {
				t.Fatalf("%s(%v) = %v with room", name, plain, got)
			}
			if !reflect.DeepEqual(whole(l), was) {
				t.Fatalf("%s changes %v", name, plain)
			}
		}
	}
}

func TestP0_4_ArgumentsAreNotRetained(t *testing.T) {
	for name, relate := range relations() {
		for _, n := range []int{0, 3, 8} {
			l := roomy(event.Head(sample(), n))
			r, want := relate(l), relate(event.Head(sample(), n)).List()
			pairs := r.Pairs()
			destroy(l)
			var got [][2]int
			for a, b := range pairs {
				got = append(got, [2]int{a, b})
			}
			if !slices.Equal(got, want) || !slices.Equal(r.List(), want) || r.Len() != n {
				t.Errorf("%s of %d events keeps its argument", name, n)
			}
		}
	}
}

func TestP0_4_ListsAreNewMemory(t *testing.T) {
	for name, relate := range relations() {
		r := relate(sample())
		first, second := r.List(), r.List()
		want := slices.Clone(first)
		fill(first, [2]int{0, 0})
		if !slices.Equal(second, want) || !slices.Equal(r.List(), want) || !slices.Equal(pairsOf(r, 99), want) {
			t.Errorf("%s: what is written into a list is elsewhere", name)
		}
	}
}
