package model_test

import (
	"math/rand"
	"reflect"
	"slices"
	"testing"

	"rendezvous/event"
	"rendezvous/model"
)

// answers are those of all calls.
type answers struct {
	coherent, tearFree, ordered, atomic int
	valid                               bool
	natural                             []int
}

func ask(l event.Log, order []int) answers {
	return answers{model.Coherent(l), model.TearFree(l), model.Ordered(l, order), model.Atomic(l, order), model.Valid(l, order), model.Natural(l)}
}

// roomy copies a log into lists with spare capacity, which has items that are not those of the log.
func roomy(l event.Log) event.Log {
	l = deep(l)
	for i := range l.Events {
		e := &l.Events[i]
		e.Read, e.Wrote, e.From = room(e.Read, 7), room(e.Wrote, 7), room(e.From, 0)
	}
	return event.Log{Events: room(l.Events, event.Event{Agent: -7, Read: []byte{7}}), Pairs: room(l.Pairs, [2]int{0, 1})}
}

func room[T any](list []T, x T) []T {
	all := append(make([]T, 0, len(list)+3), list...)
	return append(all, x, x, x)[:len(list)]
}

// whole is a log with all spare capacity as if it were its own.
func whole(l event.Log) event.Log {
	all := event.Log{Events: append([]event.Event(nil), l.Events[:cap(l.Events)]...), Pairs: l.Pairs[:cap(l.Pairs)]}
	for i, e := range all.Events {
		all.Events[i].Read, all.Events[i].Wrote, all.Events[i].From = e.Read[:cap(e.Read)], e.Wrote[:cap(e.Wrote)], e.From[:cap(e.From)]
	}
	return deep(all)
}

func fill[T any](list []T, x T) {
	_ = append(list, x, x, x)
	list = list[:cap(list)]
	for i := range list {
		list[i] = x
	}
}

// destroy fills all lists of a log, and all their spare capacity.
func destroy(l event.Log) {
	for _, e := range l.Events {
		fill(e.Read, 99)
		fill(e.Wrote, 99)
		fill(e.From, 99)
	}
	fill(l.Events, event.Event{Agent: 99})
	fill(l.Pairs, [2]int{99, 99})
}

func TestP16_5_ArgumentsAreLeft(t *testing.T) {
	r := rand.New(rand.NewSource(8))
	for range 500 {
		plain := randomLog(r, r.Intn(12))
		if r.Intn(5) == 0 && len(plain.Events) > 0 {
			plain.Events[r.Intn(len(plain.Events))].Agent = 64
		}
		order := model.Natural(plain)
		if r.Intn(3) == 0 {
			r.Shuffle(len(order), func(i, k int) { order[i], order[k] = order[k], order[i] })
		}
		if len(order) > 0 && r.Intn(3) == 0 {
			order = order[:len(order)-1]
		}
		l, o := roomy(plain), room(order, len(order))
		wasLog, wasOrder := whole(l), slices.Clone(o[:cap(o)])
		// What lies beyond the lists counts for nothing.
		if got, want := ask(l, o), ask(plain, order); !reflect.DeepEqual(got, want) {
			t.Fatalf("%v: %v with room, %v without", plain, got, want)
		}
		if !reflect.DeepEqual(whole(l), wasLog) || !slices.Equal(o[:cap(o)], wasOrder) {
			t.Fatalf("%v, %v: changed", plain, order)
		}
	}
}

func TestP16_5_NothingIsRetained(t *testing.T) {
	want := ask(sample(), numbers(8))
	l, order := roomy(sample()), room(numbers(8), 0)
	got := ask(l, order)
	destroy(l)
	fill(order, 99)
	if !reflect.DeepEqual(got, want) || !reflect.DeepEqual(ask(sample(), numbers(8)), want) {
		t.Errorf("%v, and later %v, want %v", got, ask(sample(), numbers(8)), want)
	}
}

func TestP16_5_NaturalIsNewMemory(t *testing.T) {
	first, second := model.Natural(sample()), model.Natural(sample())
	if fill(first, 99); !slices.Equal(second, numbers(8)) || !slices.Equal(model.Natural(sample()), numbers(8)) {
		t.Error("what is written into an order is elsewhere")
	}
}
