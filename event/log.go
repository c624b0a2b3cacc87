package event

import (
	"bytes"
	"slices"

	"rendezvous/api"
)

// initial is in From for a byte that no event has written.
const initial = -1

// maxSize is the size of the greatest range.
const maxSize = 8

// Log has the events in their order, by which they are numbered from 0 on,
// and the edges between them that the host creates.
type Log struct {
	Events []Event
	Pairs  [][2]int
}

// May reports whether the log is valid.
func May(l Log) bool {
	if len(l.Events) > api.MaxEvents || len(l.Pairs) > api.MaxEvents {
		return false
	}
	for _, pair := range l.Pairs {
		if pair[0] >= pair[1] || !among(pair, len(l.Events)) {
			return false
		}
	}
	return accepted(l.Events) == len(l.Events)
}

// Head returns the first n events, and the pairs among them.
func Head(l Log, n int) Log {
	n = min(max(n, 0), len(l.Events))
	head := Log{}
	for _, e := range l.Events[:n] {
		head.Events = append(head.Events, clone(e))
	}
	for _, pair := range l.Pairs {
		if among(pair, n) {
			head.Pairs = append(head.Pairs, pair)
		}
	}
	return head
}

// Same reports whether the logs are equal, be they valid or not.
func Same(a, b Log) bool {
	return slices.EqualFunc(a.Events, b.Events, same) && slices.Equal(a.Pairs, b.Pairs)
}

// among reports whether the pair connects two of the first n events.
func among(pair [2]int, n int) bool {
	return min(pair[0], pair[1]) >= 0 && max(pair[0], pair[1]) < n
}

// accepted returns how many events stand ahead of the first one that is rejected.
func accepted(events []Event) int {
	count := 0
check:
	for n, e := range events {
		if !shaped(e) {
			break check
		}
		for i, from := range e.From {
			// The events ahead of n are accepted: those that write have all their bytes.
			value, ok := origin(events[:n], from, e.Block, e.At+i)
			if !ok || value != e.Read[i] {
				break check
			}
		}
		count++
	}
	return count
}

// shaped reports whether each field of the event is in its bounds, and all lists are as long as the Kind demands.
func shaped(e Event) bool {
	if e.Agent < 0 || e.Agent >= api.MaxAgents {
		return false
	}
	switch e.Kind {
	case Sync:
		return same(e, Event{Agent: e.Agent, Kind: Sync})
	case Load:
		return ranged(e) && filled(e, e.Size, 0)
	case Store:
		return ranged(e) && filled(e, 0, e.Size)
	case Change:
		return ranged(e) && filled(e, e.Size, e.Size) && e.Seq && e.NoTear
	}
	return false
}

// ranged reports whether the event has a range that a block may have.
func ranged(e Event) bool {
	return e.Block >= 0 && e.Block < api.MaxBlocks &&
		e.Size >= 1 && e.Size <= maxSize &&
		e.At >= 0 && e.At <= api.MaxBlock-e.Size
}

// filled reports whether the event has that many bytes that it read, each with its origin, and that it wrote.
func filled(e Event, read, wrote int) bool {
	return len(e.Read) == read && len(e.From) == read && len(e.Wrote) == wrote
}

// origin returns what the event from wrote into the byte at of the block; false if it is none of the earlier ones, or does not write there.
func origin(earlier []Event, from, block, at int) (byte, bool) {
	if from == initial {
		return 0, true
	}
	if from < 0 || from >= len(earlier) {
		return 0, false
	}
	w := earlier[from]
	if !Writes(w) || w.Block != block || at < w.At || at >= w.At+w.Size {
		return 0, false
	}
	return w.Wrote[at-w.At], true
}

func same(a, b Event) bool {
	return a.Agent == b.Agent && a.Kind == b.Kind && a.Seq == b.Seq && a.NoTear == b.NoTear &&
		a.Block == b.Block && a.At == b.At && a.Size == b.Size &&
		bytes.Equal(a.Read, b.Read) && bytes.Equal(a.Wrote, b.Wrote) && slices.Equal(a.From, b.From)
}

func clone(e Event) Event {
	e.Read, e.Wrote, e.From = slices.Clone(e.Read), slices.Clone(e.Wrote), slices.Clone(e.From)
	return e
}
