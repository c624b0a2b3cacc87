package rel_test

import (
	"math/rand"
	"slices"
	"testing"

	"rendezvous/event"
	"rendezvous/rel"
)

func TestP15_2_HasOfNoEvent(t *testing.T) {
	for _, n := range []int{0, 1, 8, 63, 64, 65, 127, 128, 999, 1000} {
		l := event.Log{Events: make([]event.Event, n)}
		for name, relate := range relations() {
			r := relate(l)
			for _, a := range edges() {
				for _, b := range edges() {
					want := name == "Before" && 0 <= a && a < b && b < n
					if r.Has(a, b) != want {
						t.Errorf("%s of %d events: Has(%d, %d) = %v", name, n, a, b, !want)
					}
				}
			}
		}
	}
}

func TestP15_2_Len(t *testing.T) {
	for _, n := range []int{0, 1, 2, 63, 64, 65, 999, 1000} {
		for name, relate := range relations() {
			if got := relate(event.Log{Events: make([]event.Event, n)}).Len(); got != n {
				t.Errorf("%s of %d events: Len() = %d", name, n, got)
			}
		}
	}
}

// far has pairs around the ends of the words of bits.
func far() event.Log {
	l := event.Log{Events: make([]event.Event, 200), Pairs: [][2]int{{63, 127}, {0, 199}, {63, 64}, {0, 1}, {0, 128}, {0, 63}, {127, 128}, {198, 199}, {0, 64}, {63, 128}, {0, 127}}}
	for i := range l.Events {
		l.Events[i].Agent = i % 64
	}
	return l
}

func TestP15_2_Order(t *testing.T) {
	want := [][2]int{{0, 1}, {0, 63}, {0, 64}, {0, 127}, {0, 128}, {0, 199}, {63, 64}, {63, 127}, {63, 128}, {127, 128}, {198, 199}}
	checkList(t, "Sync", rel.Sync(far()), 200, want...)
	if got := pairsOf(rel.Sync(far()), 99); !slices.Equal(got, want) {
		t.Errorf("Pairs: %v", got)
	}
}

// pairsOf takes the first n pairs that are yielded.
func pairsOf(r *rel.Rel, n int) [][2]int {
	var got [][2]int
	for a, b := range r.Pairs() {
		if len(got) == n {
			break
		}
		got = append(got, [2]int{a, b})
	}
	return got
}

// A loop that ends gets no more pairs, and changes nothing for the next one.
func TestP15_2_PairsUntilTheLoopEnds(t *testing.T) {
	for name, relate := range relations() {
		for _, l := range []event.Log{sample(), far(), {}} {
			r := relate(l)
			list := r.List()
			for n := range len(list) + 2 {
				if got := pairsOf(r, n); !slices.Equal(got, list[:min(n, len(list))]) {
					t.Errorf("%s: the first %d pairs are %v", name, n, got)
				}
				if calls := callsUntil(r, n); calls != min(n+1, len(list)) {
					t.Errorf("%s: a loop that ends at pair %d got %d", name, n, calls)
				}
			}
			if !slices.Equal(r.List(), list) {
				t.Errorf("%s: changed by loops", name)
			}
		}
	}
}

// callsUntil counts the calls to a yield that answers false at pair n.
func callsUntil(r *rel.Rel, n int) int {
	calls := 0
	r.Pairs()(func(a, b int) bool {
		calls++
		return calls <= n
	})
	return calls
}

// One iterator may be gone over again, within its own loop too.
func TestP15_2_LoopsInOneAnother(t *testing.T) {
	r := rel.Before(sample())
	list, pairs := r.List(), r.Pairs()
	var got [][4]int
	for a, b := range pairs {
		for c, d := range pairs {
			got = append(got, [4]int{a, b, c, d})
		}
	}
	if len(got) != len(list)*len(list) {
		t.Fatalf("%d pairs of pairs", len(got))
	}
	for i, p := range list {
		for k, q := range list {
			if got[i*len(list)+k] != [4]int{p[0], p[1], q[0], q[1]} {
				t.Errorf("%v and %v: %v", p, q, got[i*len(list)+k])
			}
		}
	}
}

// All methods speak of the same pairs.
func TestP15_2_MethodsAgree(t *testing.T) {
	r := rand.New(rand.NewSource(2))
	for range 300 {
		l := randomLog(r, r.Intn(80))
		for name, relate := range relations() {
			relation, had := relate(l), set{}
			for a := range relation.Len() {
				for b := range relation.Len() {
					if relation.Has(a, b) {
						had[[2]int{a, b}] = true
					}
				}
			}
			list := relation.List()
			if !slices.Equal(list, listByTheBook(had, len(l.Events))) || !slices.Equal(pairsOf(relation, len(list)+1), list) {
				t.Fatalf("%s(%v): %v, but Has tells %v", name, l, list, had)
			}
		}
	}
}
