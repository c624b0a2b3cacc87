package event_test

import (
	"math/rand"
	"testing"

	"rendezvous/event"
)

func TestP14_5_HeadsAreValid(t *testing.T) {
	r := rand.New(rand.NewSource(5))
	logs := []event.Log{sample(), {}}
	for range 2000 {
		logs = append(logs, randomLog(r, r.Intn(14)))
	}
	for _, l := range logs {
		for n := -1; n <= len(l.Events)+1; n++ {
			head := event.Head(l, n)
			if !event.May(head) || fault(head) != "" {
				t.Fatalf("Head(%v, %d) is not valid", l, n)
			}
			for m := -1; m <= n; m++ {
				if !event.Same(event.Head(head, m), event.Head(l, m)) {
					t.Fatalf("Head(%v, %d): its head of %d is another one", l, n, m)
				}
			}
		}
	}
}

func TestP14_5_EqualEventsOverlap(t *testing.T) {
	r, equal, overlap := rand.New(rand.NewSource(6)), 0, 0
	for range 1000 {
		l := randomLog(r, 12)
		for _, a := range l.Events {
			for _, b := range l.Events {
				if event.Overlap(a, b) != event.Overlap(b, a) || event.Equal(a, b) != event.Equal(b, a) {
					t.Fatalf("%v and %v: the order counts", a, b)
				}
				if event.Equal(a, b) && !event.Overlap(a, b) {
					t.Fatalf("%v and %v are Equal, but do not overlap", a, b)
				}
				if event.Equal(a, b) {
					equal++
				}
				if event.Overlap(a, b) {
					overlap++
				}
			}
		}
	}
	if equal < 1000 || overlap < 2*equal {
		t.Errorf("only %d Equal, %d overlap", equal, overlap)
	}
}
