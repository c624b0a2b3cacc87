package model_test

import (
	"math"
	"math/rand"
	"slices"
	"testing"

	"rendezvous/event"
	"rendezvous/model"
)

func checkOrdered(t *testing.T, l event.Log, order []int, want int) {
	t.Helper()
	if got := model.Ordered(l, order); got != want {
		t.Errorf("Ordered(%v) = %d, want %d", order, got, want)
	}
	// Nothing else is found by Atomic, nor true, where the order is none.
	if got := model.Atomic(l, order); want == 0 && got != 0 {
		t.Errorf("Atomic(%v) = %d", order, got)
	}
	if want == 0 && model.Valid(l, order) {
		t.Errorf("Valid(%v)", order)
	}
}

func TestP16_3_Ordered(t *testing.T) {
	// Events 0 and 2 are those of agent 0; a pair leads from 1 to 2, and 3 reads from 2.
	l := with(logOf(sync(0), sync(1), seq(store(0, 0, 0, 1)), seq(load(2, 0, 0, []byte{1}, 2)), sync(3)), [2]int{1, 2})
	for _, order := range [][]int{{0, 1, 2, 3, 4}, {1, 0, 2, 3, 4}, {4, 0, 1, 2, 3}, {0, 4, 1, 2, 3}, {1, 0, 2, 4, 3}} {
		checkOrdered(t, l, order, -1)
	}
	for _, order := range [][]int{{2, 0, 1, 3, 4}, {0, 2, 1, 3, 4}, {1, 2, 0, 3, 4}, {0, 1, 3, 2, 4}, {3, 0, 1, 2, 4}, {4, 3, 2, 1, 0}} {
		checkOrdered(t, l, order, 0)
	}
	// Only Before counts, not what is read plainly.
	plain := logOf(store(0, 0, 0, 1), load(1, 0, 0, []byte{1}, 0))
	checkOrdered(t, plain, []int{1, 0}, -1)
	checkOrdered(t, with(plain, [2]int{0, 1}), []int{1, 0}, 0)
	// An event that lies between in Before need not be one of both agents.
	checkOrdered(t, with(logOf(sync(0), sync(1), sync(2)), [2]int{0, 1}, [2]int{1, 2}), []int{2, 0, 1}, 0)
}

func TestP16_3_NotEachEventOnce(t *testing.T) {
	l := logOf(sync(0), sync(1), sync(2))
	checkOrdered(t, l, []int{2, 0, 1}, -1)
	for _, order := range [][]int{
		nil, {}, {0}, {0, 1}, {1, 2}, {0, 2}, {0, 0, 0}, {0, 1, 1}, {0, 0, 1}, {2, 1, 2}, {0, 1, 2, 2}, {0, 0, 1, 2}, {0, 1, 2, 0, 1, 2},
		{0, 1, 3}, {1, 2, 3}, {-1, 1, 2}, {-1, 0, 1}, {0, 1, 2, 3}, {-1, 0, 1, 2}, {0, 1, 2, -1}, {0, 1, math.MaxInt}, {0, 1, math.MinInt}, {0, 1, 1 << 32}, {0, 1, 1<<32 + 2}, {0, 1, 2 - 1<<32},
	} {
		checkOrdered(t, l, order, 0)
	}
	for _, order := range [][]int{{0}, {-1}, {0, 0}} {
		checkOrdered(t, event.Log{}, order, 0)
	}
	checkOrdered(t, event.Log{}, nil, -1)
	checkOrdered(t, event.Log{}, []int{}, -1)
	checkOrdered(t, logOf(sync(0)), []int{0}, -1)
	checkOrdered(t, logOf(sync(0)), []int{1}, 0)
	checkOrdered(t, logOf(sync(0)), make([]int, 100000), 0)
}

// permutations are all orders of a list.
func permutations(list []int) [][]int {
	if len(list) == 0 {
		return [][]int{nil}
	}
	var all [][]int
	for i := range list {
		for _, rest := range permutations(slices.Delete(slices.Clone(list), i, i+1)) {
			all = append(all, append([]int{list[i]}, rest...))
		}
	}
	return all
}

func TestP16_3_AllOrders(t *testing.T) {
	r, kept, broken := rand.New(rand.NewSource(3)), 0, 0
	for range 200 {
		l := randomLog(r, r.Intn(6))
		for _, order := range permutations(numbers(len(l.Events))) {
			want := orderedByTheBook(l, order)
			if checkOrdered(t, l, order, want); want == -1 {
				kept++
			} else {
				broken++
			}
		}
	}
	if kept < 500 || broken < 500 {
		t.Errorf("%d orders keep Before, %d do not", kept, broken)
	}
}

func TestP16_3_ManyOrders(t *testing.T) {
	r, kept, broken := rand.New(rand.NewSource(4)), 0, 0
	for range 5000 {
		l := randomLog(r, 1+r.Intn(16))
		order := randomOrder(r, l)
		checkOrdered(t, l, order, -1)
		// Two that change their places, and a number that is another one.
		a, b := r.Intn(len(order)), r.Intn(len(order))
		if order[a], order[b] = order[b], order[a]; r.Intn(4) == 0 {
			order[a] += r.Intn(5) - 2
		}
		want := orderedByTheBook(l, order)
		if checkOrdered(t, l, order, want); want == -1 {
			kept++
		} else {
			broken++
		}
	}
	if kept < 500 || broken < 500 {
		t.Errorf("%d orders keep Before, %d do not", kept, broken)
	}
}

func TestP16_3_Natural(t *testing.T) {
	for n := range 9 {
		l := event.Head(sample(), n)
		if got := model.Natural(l); !slices.Equal(got, numbers(n)) || model.Ordered(l, got) != -1 {
			t.Errorf("Natural of %d events = %v", n, got)
		}
	}
	full := event.Log{Events: make([]event.Event, 1000)}
	if got := model.Natural(full); !slices.Equal(got, numbers(1000)) || model.Ordered(full, got) != -1 {
		t.Errorf("Natural of 1000 events = %v", got)
	}
	if got := model.Natural(event.Log{}); len(got) > 0 {
		t.Errorf("Natural of no events = %v", got)
	}
}
