package model

import "rendezvous/event"

// TearFree returns the first event that reads parts of several events, though none of them can be torn.
func TearFree(l event.Log) int {
	if !event.May(l) {
		return refused
	}
reads:
	for r, read := range l.Events {
		if !read.NoTear {
			continue reads
		}
		whole := initial
	parts:
		for _, w := range read.From {
			if w == initial || w == whole || !cannotTear(l.Events[w], read) {
				continue parts
			}
			if whole != initial {
				return r
			}
			whole = w
		}
	}
	return none
}

// cannotTear reports whether what the one event wrote can only be seen as a whole, or not at all, by the other one.
func cannotTear(wrote, read event.Event) bool {
	return wrote.NoTear && event.Equal(wrote, read)
}
