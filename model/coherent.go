package model

import (
	"rendezvous/event"
	"rendezvous/rel"
)

// Coherent returns the first event that reads a byte which it cannot see any more,
// as another event has written over it in between.
func Coherent(l event.Log) int {
	if !event.May(l) {
		return refused
	}
	before := rel.Before(l)
	for r, read := range l.Events {
		for i, w := range read.From {
			// All that happens after w and before r stands between them. That r happens before w itself
			// cannot be: what a valid log reads stands ahead of what reads it.
		between:
			for v := w + 1; v < r; v++ {
				if !writesAt(l.Events[v], read.Block, read.At+i) || !before.Has(v, r) {
					continue between
				}
				if w != initial && !before.Has(w, v) {
					continue between
				}
				return r
			}
		}
	}
	return none
}

func writesAt(e event.Event, block, at int) bool {
	return event.Writes(e) && e.Block == block && e.At <= at && at < e.At+e.Size
}
