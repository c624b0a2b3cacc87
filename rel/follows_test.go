package rel_test

import (
	"math/rand"
	"testing"

	"rendezvous/event"
	"rendezvous/rel"
)

func TestP15_3_ForwardAndTransitive(t *testing.T) {
	r, between := rand.New(rand.NewSource(3)), 0
	for range 300 {
		l := randomLog(r, r.Intn(40))
		before := rel.Before(l)
		for a, b := range before.Pairs() {
			if a >= b {
				t.Fatalf("%v: (%d, %d) leads back", l, a, b)
			}
			for c := range before.Len() {
				if !before.Has(b, c) {
					continue
				}
				if between++; !before.Has(a, c) {
					t.Fatalf("%v: (%d, %d) and (%d, %d) without (%d, %d)", l, a, b, b, c, a, c)
				}
			}
		}
	}
	if between < 100000 {
		t.Errorf("only %d events between two others", between)
	}
}

// A pair of From is in Before only if steps of agents and pairs of Sync lead from the one to the other.
func TestP15_3_FromIsNotBefore(t *testing.T) {
	r, in, out := rand.New(rand.NewSource(4)), 0, 0
	for range 1000 {
		l := randomLog(r, r.Intn(16))
		before := rel.Before(l)
		for a, b := range rel.From(l).Pairs() {
			want := leads(l, a, b)
			if before.Has(a, b) != want {
				t.Fatalf("%v: (%d, %d) is in Before: %v", l, a, b, !want)
			}
			if want {
				in++
			} else {
				out++
			}
		}
	}
	if in < 500 || out < 500 {
		t.Errorf("%d pairs in Before, %d not", in, out)
	}
	l := event.Log{Events: []event.Event{store(0, 0, 0, 1), load(1, 0, 0, []byte{1}, 0)}}
	if !rel.From(l).Has(0, 1) || rel.Before(l).Has(0, 1) {
		t.Error("a plain Load of a plain Store of another agent")
	}
}

// leads walks from an event along its agent and Sync.
func leads(l event.Log, a, goal int) bool {
	sync, todo, seen := syncByTheBook(l), []int{a}, map[int]bool{}
	for len(todo) > 0 {
		at := todo[0]
		todo = todo[1:]
		for b := at + 1; b < len(l.Events); b++ {
			if !seen[b] && (l.Events[at].Agent == l.Events[b].Agent || sync[[2]int{at, b}]) {
				seen[b], todo = true, append(todo, b)
			}
		}
	}
	return seen[goal]
}

func TestP15_3_Heads(t *testing.T) {
	r := rand.New(rand.NewSource(5))
	logs := []event.Log{sample(), far(), {}}
	for range 100 {
		logs = append(logs, randomLog(r, r.Intn(30)))
	}
	for _, l := range logs {
		for name, relate := range relations() {
			whole := relate(l)
			for n := -1; n <= len(l.Events)+1; n += 1 + len(l.Events)/30 {
				head := relate(event.Head(l, n))
				if want := min(max(n, 0), len(l.Events)); head.Len() != want {
					t.Fatalf("%s of Head(%v, %d): Len() = %d", name, l, n, head.Len())
				}
				for a := range l.Events {
					for b := range l.Events {
						if head.Has(a, b) != (whole.Has(a, b) && a < n && b < n) {
							t.Fatalf("%s of Head(%v, %d): Has(%d, %d) = %v", name, l, n, a, b, head.Has(a, b))
						}
					}
				}
			}
		}
	}
}
