package model_test

import (
	"math/rand"
	"testing"

	"rendezvous/event"
	"rendezvous/model"
)

// validByTheBook asks for each of the four.
func validByTheBook(l event.Log, order []int) bool {
	atomic, _ := atomicByTheBook(l, order)
	return coherentByTheBook(l) == -1 && tearFreeByTheBook(l) == -1 && orderedByTheBook(l, order) == -1 && atomic == -1
}

// Each of the four alone makes a log with an order fail.
func TestP16_4_Valid(t *testing.T) {
	one := []byte{1}
	for _, c := range []struct {
		name  string
		l     event.Log
		order []int
		want  bool
	}{
		{"no events", event.Log{}, nil, true},
		{"no events, one in the order", event.Log{}, []int{0}, false},
		{"a sample", sample(), numbers(8), true},
		{"not coherent", logOf(store(0, 0, 0, 1), store(0, 0, 0, 2), load(0, 0, 0, one, 0)), numbers(3), false},
		{"coherent", logOf(store(0, 0, 0, 1), store(1, 0, 0, 2), load(0, 0, 0, one, 0)), numbers(3), true},
		{"torn", logOf(noTear(store(0, 0, 0, 1, 1)), noTear(store(1, 0, 0, 2, 2)), noTear(load(2, 0, 0, []byte{1, 2}, 0, 1))), numbers(3), false},
		{"may be torn", logOf(noTear(store(0, 0, 0, 1, 1)), noTear(store(1, 0, 0, 2, 2)), load(2, 0, 0, []byte{1, 2}, 0, 1)), numbers(3), true},
		{"not ordered", logOf(sync(0), sync(0)), []int{1, 0}, false},
		{"ordered", logOf(sync(0), sync(1)), []int{1, 0}, true},
		{"an order too short", logOf(sync(0), sync(1)), []int{0}, false},
		{"not atomic", logOf(seq(store(0, 0, 0, 1)), seq(store(1, 0, 0, 2)), seq(load(2, 0, 0, one, 0))), numbers(3), false},
		{"atomic in another order", logOf(seq(store(0, 0, 0, 1)), seq(store(1, 0, 0, 2)), seq(load(2, 0, 0, one, 0))), []int{1, 0, 2}, true},
	} {
		if got := model.Valid(c.l, c.order); got != c.want {
			t.Errorf("%s: Valid = %v", c.name, got)
		}
	}
}

func TestP16_4_ManyLogs(t *testing.T) {
	r, counts := rand.New(rand.NewSource(6)), map[bool]int{}
	for range 10000 {
		l := randomLog(r, r.Intn(12))
		order := randomOrder(r, l)
		if r.Intn(4) == 0 {
			r.Shuffle(len(order), func(i, k int) { order[i], order[k] = order[k], order[i] })
		}
		want := validByTheBook(l, order)
		if got := model.Valid(l, order); got != want {
			t.Fatalf("Valid(%v, %v) = %v", l, order, got)
		}
		counts[want]++
	}
	if counts[true] < 1000 || counts[false] < 1000 {
		t.Errorf("%d are valid, %d are not", counts[true], counts[false])
	}
}

// A memory in which each event reads what was written last is valid as it stands.
func TestP16_4_PlainMemory(t *testing.T) {
	r := rand.New(rand.NewSource(7))
	for range 2000 {
		w := writer{r: r, agents: 1 + r.Intn(5), stale: 1 << 62}
		for range r.Intn(20) {
			w.l.Events = append(w.l.Events, w.event())
		}
		if !model.Valid(w.l, model.Natural(w.l)) {
			t.Fatalf("%v is not valid", w.l)
		}
	}
}

func TestP16_4_InvalidLogs(t *testing.T) {
	for name, spoil := range spoils() {
		l := sample()
		if spoil(&l); event.May(l) {
			t.Fatalf("%s: the log is valid", name)
		}
		if a, b := model.Coherent(l), model.TearFree(l); a != 0 || b != 0 {
			t.Errorf("%s: Coherent %d, TearFree %d", name, a, b)
		}
		for _, order := range [][]int{nil, numbers(8), numbers(len(l.Events)), {0}, {-1}} {
			if a, b := model.Ordered(l, order), model.Atomic(l, order); a != 0 || b != 0 || model.Valid(l, order) {
				t.Errorf("%s: Ordered %d, Atomic %d, Valid %v", name, a, b, model.Valid(l, order))
			}
		}
		if order := model.Natural(l); len(order) > 0 {
			t.Errorf("%s: Natural %v", name, order)
		}
	}
}

// fullLog has as many events and pairs as there may be; of the events that read, only the last one comes after all others.
func fullLog(last func(e *event.Event)) event.Log {
	l := event.Log{}
	for n := range 1000 {
		e := seq(noTear(store(n%64, 0, 0, 1, 1, 1, 1, 1, 1, 1, 1)))
		if n >= 992 {
			e = load(n%64, 0, 0, []byte{1, 1, 1, 1, 1, 1, 1, 1}, 0, 0, 0, 0, 0, 0, 0, 0)
		}
		l.Events = append(l.Events, e)
	}
	for n := range 1000 {
		l.Pairs = append(l.Pairs, [2]int{n % 999, 999})
	}
	last(&l.Events[999])
	return l
}

func TestP16_4_FullLogs(t *testing.T) {
	order := numbers(1000)
	l := fullLog(func(*event.Event) {})
	if a, b, c := model.Coherent(l), model.TearFree(l), model.Ordered(l, order); a != 999 || b != -1 || c != -1 {
		t.Errorf("Coherent %d, TearFree %d, Ordered %d", a, b, c)
	}
	if got := model.Atomic(l, order); got != 999 {
		t.Errorf("Atomic %d", got)
	}
	l = fullLog(func(e *event.Event) { *e = noTear(load(63, 0, 0, e.Read, 1, 1, 1, 1, 1, 1, 1, 991)) })
	if got := model.TearFree(l); got != 999 {
		t.Errorf("TearFree %d", got)
	}
	order[998], order[999] = 999, 998
	if got := model.Ordered(l, order); got != 0 {
		t.Errorf("Ordered %d", got)
	}
}
