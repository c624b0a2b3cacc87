package model_test

import "rendezvous/event"

// set has pairs of events.
type set map[[2]int]bool

func readsByTheBook(e event.Event) bool  { return e.Kind == 1 || e.Kind == 3 }
func writesByTheBook(e event.Event) bool { return e.Kind == 2 || e.Kind == 3 }

func equalByTheBook(a, b event.Event) bool {
	return a.Kind != 0 && b.Kind != 0 && a.Block == b.Block && a.At == b.At && a.Size == b.Size
}

func syncByTheBook(l event.Log) set {
	all := set{}
	for b, e := range l.Events {
		for _, a := range e.From {
			if a >= 0 && l.Events[a].Seq && e.Seq && equalByTheBook(l.Events[a], e) {
				all[[2]int{a, b}] = true
			}
		}
	}
	for _, p := range l.Pairs {
		all[p] = true
	}
	return all
}

// beforeByTheBook goes over all events as the one between, until there are no more pairs.
func beforeByTheBook(l event.Log) set {
	all := syncByTheBook(l)
	for b, e := range l.Events {
		for a := range b {
			if l.Events[a].Agent == e.Agent {
				all[[2]int{a, b}] = true
			}
		}
	}
	for size := -1; size < len(all); {
		size = len(all)
		for c := range l.Events {
			for a := range c {
				for b := c + 1; all[[2]int{a, c}] && b < len(l.Events); b++ {
					if all[[2]int{c, b}] {
						all[[2]int{a, b}] = true
					}
				}
			}
		}
	}
	return all
}

// writtenByTheBook are the bytes of a block that an event writes.
func writtenByTheBook(e event.Event) set {
	all := set{}
	if writesByTheBook(e) {
		for i := range e.Size {
			all[[2]int{e.Block, e.At + i}] = true
		}
	}
	return all
}

func coherentByTheBook(l event.Log) int {
	before := beforeByTheBook(l)
	for r, read := range l.Events {
		if !readsByTheBook(read) {
			continue
		}
		for i, w := range read.From {
			if w != -1 && before[[2]int{r, w}] {
				return r
			}
			for v, other := range l.Events {
				covers := writtenByTheBook(other)[[2]int{read.Block, read.At + i}] && before[[2]int{v, r}]
				if covers && (w == -1 || before[[2]int{w, v}]) {
					return r
				}
			}
		}
	}
	return -1
}

func tearFreeByTheBook(l event.Log) int {
	for r, read := range l.Events {
		parts := map[int]bool{}
		for _, w := range read.From {
			if w != -1 && l.Events[w].NoTear && equalByTheBook(l.Events[w], read) {
				parts[w] = true
			}
		}
		if readsByTheBook(read) && read.NoTear && len(parts) > 1 {
			return r
		}
	}
	return -1
}

// orderedByTheBook counts how often the order has each event.
func orderedByTheBook(l event.Log, order []int) int {
	count, place := map[int]int{}, map[int]int{}
	for at, n := range order {
		count[n]++
		place[n] = at
	}
	for n := range l.Events {
		if count[n] != 1 {
			return 0
		}
	}
	if len(order) != len(l.Events) {
		return 0
	}
	for p := range beforeByTheBook(l) {
		if place[p[0]] >= place[p[1]] {
			return 0
		}
	}
	return -1
}

// casesByTheBook tells which of the three cases, counted from 0, hold for an event that writes between.
func casesByTheBook(l event.Log, sync, before set, w, v, r int) [3]bool {
	a, b, c := l.Events[w], l.Events[v], l.Events[r]
	wr, vr, wv := [2]int{w, r}, [2]int{v, r}, [2]int{w, v}
	return [3]bool{
		sync[wr] && equalByTheBook(b, c),
		before[wr] && before[vr] && a.Seq && equalByTheBook(a, b),
		before[wr] && before[wv] && c.Seq && equalByTheBook(b, c),
	}
}

// atomicByTheBook also returns the cases that some event between makes true for the event that is found.
func atomicByTheBook(l event.Log, order []int) (int, [3]bool) {
	var found [3]bool
	if orderedByTheBook(l, order) != -1 {
		return 0, found
	}
	place := map[int]int{}
	for at, n := range order {
		place[n] = at
	}
	sync, before := syncByTheBook(l), beforeByTheBook(l)
	for r, read := range l.Events {
		for _, w := range read.From {
			for v, other := range l.Events {
				if w == -1 || v == w || v == r || !writesByTheBook(other) || !other.Seq || place[v] < place[w] || place[v] > place[r] {
					continue
				}
				for i, holds := range casesByTheBook(l, sync, before, w, v, r) {
					found[i] = found[i] || holds
				}
			}
		}
		if found != [3]bool{} {
			return r, found
		}
	}
	return -1, found
}
