package race_test

import (
	"rendezvous/event"
)

// set has pairs of events.
type set map[[2]int]bool

// beforeByTheBook goes over all events as the one between, until there are no more pairs.
func beforeByTheBook(l event.Log) set {
	all := set{}
	for _, p := range l.Pairs {
		all[p] = true
	}
	for b, e := range l.Events {
		for _, a := range e.From {
			if a != -1 && l.Events[a].Seq && e.Seq && equalByTheBook(l.Events[a], e) {
				all[[2]int{a, b}] = true
			}
		}
		for a := range b {
			if l.Events[a].Agent == e.Agent {
				all[[2]int{a, b}] = true
			}
		}
	}
	for size := -1; size < len(all); {
		size = len(all)
		for c := range l.Events {
			for a := range l.Events {
				for b := range l.Events {
					if all[[2]int{a, c}] && all[[2]int{c, b}] {
						all[[2]int{a, b}] = true
					}
				}
			}
		}
	}
	return all
}

func writesByTheBook(e event.Event) bool { return e.Kind == event.Store || e.Kind == event.Change }

func equalByTheBook(a, b event.Event) bool {
	return a.Kind != event.Sync && b.Kind != event.Sync && a.Block == b.Block && a.At == b.At && a.Size == b.Size
}

// overlapByTheBook goes over the bytes of both.
func overlapByTheBook(a, b event.Event) bool {
	for i := range a.Size {
		for k := range b.Size {
			if a.Kind != event.Sync && b.Kind != event.Sync && a.Block == b.Block && a.At+i == b.At+k {
				return true
			}
		}
	}
	return false
}

// conflictsByTheBook has the pairs of a valid log both ways round.
func conflictsByTheBook(l event.Log) set {
	all, before := set{}, beforeByTheBook(l)
	for a, e := range l.Events {
		for b, f := range l.Events {
			different, ordered := a != b, before[[2]int{a, b}] || before[[2]int{b, a}]
			writes, atomics := writesByTheBook(e) || writesByTheBook(f), e.Seq && f.Seq && equalByTheBook(e, f)
			if different && overlapByTheBook(e, f) && writes && !ordered && !atomics {
				all[[2]int{a, b}] = true
			}
		}
	}
	return all
}

func datasByTheBook(l event.Log) set {
	all := set{}
	for p := range conflictsByTheBook(l) {
		a, b := l.Events[p[0]], l.Events[p[1]]
		if writesByTheBook(a) && writesByTheBook(b) || has(a.From, p[1]) || has(b.From, p[0]) {
			all[p] = true
		}
	}
	return all
}

func has(list []int, n int) bool {
	found := false
	for _, x := range list {
		found = found || x == n
	}
	return found
}

// firstByTheBook asks one head after another.
func firstByTheBook(l event.Log) int {
	for n := range len(l.Events) + 1 {
		if len(conflictsByTheBook(event.Head(l, n))) > 0 {
			return n
		}
	}
	return -1
}

// listByTheBook asks for the pairs in their order, each one way round.
func listByTheBook(s set, count int) [][2]int {
	var list [][2]int
	for a := range count {
		for b := a + 1; b < count; b++ {
			if s[[2]int{a, b}] {
				list = append(list, [2]int{a, b})
			}
		}
	}
	return list
}
