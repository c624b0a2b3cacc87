package model

import (
	"rendezvous/event"
	"rendezvous/rel"
)

// Atomic returns the first event that reads from one event, though another one, which is Seq, has written in between in the order.
func Atomic(l event.Log, order []int) int {
	if Ordered(l, order) != none {
		return refused
	}
	place, _ := places(order, len(l.Events))
	sync, before := rel.Sync(l), rel.Before(l)
	for r, read := range l.Events {
	origins:
		for _, w := range read.From {
			// Each of the three cases asks for this, by Sync if not by Before; so w is an event, and ahead of r in the order.
			if !before.Has(w, r) {
				continue origins
			}
			wrote := l.Events[w]
		between:
			for _, v := range order[place[w]+1 : place[r]] {
				other := l.Events[v]
				switch {
				case !event.Writes(other) || !other.Seq:
					continue between
				case sync.Has(w, r) && event.Equal(other, read):
				case before.Has(v, r) && wrote.Seq && event.Equal(wrote, other):
				case before.Has(w, v) && read.Seq && event.Equal(other, read):
				default:
					continue between
				}
				return r
			}
		}
	}
	return none
}
