package race_test

import (
	"math/rand"
	"reflect"
	"slices"
	"testing"

	"rendezvous/event"
	"rendezvous/race"
)

// answers are those of all calls.
type answers struct {
	conflicts, datas [][2]int
	first            int
	conflict, data   []bool
}

func ask(l event.Log) answers {
	all := answers{conflicts: race.Conflicts(l), datas: race.Datas(l), first: race.First(l)}
	for a := range l.Events {
		for b := range l.Events {
			all.conflict, all.data = append(all.conflict, race.Conflict(l, a, b)), append(all.data, race.Data(l, a, b))
		}
	}
	return all
}

// roomy copies a log into lists with spare capacity, which has items that are not those of the log.
func roomy(l event.Log) event.Log {
	l = deep(l)
	for i := range l.Events {
		e := &l.Events[i]
		e.Read, e.Wrote, e.From = room(e.Read, 7), room(e.Wrote, 7), room(e.From, 0)
	}
	return event.Log{Events: room(l.Events, event.Event{Agent: -7, Read: []byte{7}}), Pairs: room(l.Pairs, [2]int{0, 1})}
}

func room[T any](list []T, x T) []T {
	all := append(make([]T, 0, len(list)+3), list...)
	return append(all, x, x, x)[:len(list)]
}

// whole is a log with all spare capacity as if it were its own.
func whole(l event.Log) event.Log {
	all := event.Log{Events: append([]event.Event(nil), l.Events[:cap(l.Events)]...), Pairs: l.Pairs[:cap(l.Pairs)]}
	for i, e := range all.Events {
		all.Events[i].Read, all.Events[i].Wrote, all.Events[i].From = e.Read[:cap(e.Read)], e.Wrote[:cap(e.Wrote)], e.From[:cap(e.From)]
	}
	return deep(all)
}

func fill[T any](list []T, x T) {
	_ = append(list, x, x, x)
	list = list[:cap(list)]
	for i := range list {
		list[i] = x
	}
}

// destroy fills all lists of a log, and all their spare capacity.
func destroy(l event.Log) {
	for _, e := range l.Events {
		fill(e.Read, 99)
		fill(e.Wrote, 99)
		fill(e.From, 99)
	}
	fill(l.Events, event.Event{Agent: 99})
	fill(l.Pairs, [2]int{99, 99})
}

func TestP0_4_ArgumentsAreLeft(t *testing.T) {
	r := rand.New(rand.NewSource(7))
	for range 500 {
		plain := randomLog(r, r.Intn(12))
		if r.Intn(5) == 0 && len(plain.Events) > 0 {
			plain.Events[r.Intn(len(plain.Events))].Agent = 64
		}
		l := roomy(plain)
		was := whole(l)
		// What lies beyond the lists counts for nothing.
		if got, want := ask(l), ask(plain); !reflect.DeepEqual(got, want) {
			t.Fatalf("%v: %v with room, %v without", plain, got, want)
		}
		if !reflect.DeepEqual(whole(l), was) {
			t.Fatalf("%v: changed", plain)
		}
	}
}

func TestP0_4_NothingIsRetained(t *testing.T) {
	want := ask(sample())
	l := roomy(sample())
	got := ask(l)
	destroy(l)
	if !reflect.DeepEqual(got, want) || !reflect.DeepEqual(ask(sample()), want) {
		t.Errorf("%v, and later %v, want %v", got, ask(sample()), want)
	}
}

func TestP0_4_ListsAreNewMemory(t *testing.T) {
	l := sample()
	lists := [][][2]int{race.Conflicts(l), race.Datas(l), race.Conflicts(l), race.Datas(l)}
	fill(lists[0], [2]int{9, 9})
	if !slices.Equal(lists[1], sampleDatas()) || !slices.Equal(lists[2], sampleConflicts()) {
		t.Error("what is written into the conflicts is elsewhere")
	}
	fill(lists[1], [2]int{9, 9})
	if !slices.Equal(lists[2], sampleConflicts()) || !slices.Equal(lists[3], sampleDatas()) {
		t.Error("what is written into the data races is elsewhere")
	}
	if !slices.Equal(race.Conflicts(l), sampleConflicts()) || !slices.Equal(race.Datas(l), sampleDatas()) || !reflect.DeepEqual(l, sample()) {
		t.Error("what is written into the lists is in the log")
	}
}
