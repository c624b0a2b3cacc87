package rel_test

import (
	"rendezvous/event"
)

// set has pairs of events.
type set map[[2]int]bool

// fromByTheBook asks for each two events whether the one read from the other.
func fromByTheBook(l event.Log) set {
	all := set{}
	for a := range l.Events {
		for b, e := range l.Events {
			for _, n := range e.From {
				if n == a && (e.Kind == 1 || e.Kind == 3) {
					all[[2]int{a, b}] = true
				}
			}
		}
	}
	return all
}

func syncByTheBook(l event.Log) set {
	all := set{}
	for p := range fromByTheBook(l) {
		a, b := l.Events[p[0]], l.Events[p[1]]
		if a.Seq && b.Seq && a.Block == b.Block && a.At == b.At && a.Size == b.Size {
			all[p] = true
		}
	}
	for _, p := range l.Pairs {
		all[p] = true
	}
	return all
}

// beforeByTheBook goes over all events as the one between, until there are no more pairs.
func beforeByTheBook(l event.Log) set {
	all := syncByTheBook(l)
	for b, e := range l.Events {
		for a := range b {
			if l.Events[a].Agent == e.Agent {
				all[[2]int{a, b}] = true
			}
		}
	}
	for size := -1; size < len(all); {
		size = len(all)
		for c := range l.Events {
			for a := range c {
				for b := c + 1; all[[2]int{a, c}] && b < len(l.Events); b++ {
					if all[[2]int{c, b}] {
						all[[2]int{a, b}] = true
					}
				}
			}
		}
	}
	return all
}

// byTheBook has a second reading of the chapter for each of the three calls.
func byTheBook() map[string]func(event.Log) set {
	return map[string]func(event.Log) set{"From": fromByTheBook, "Sync": syncByTheBook, "Before": beforeByTheBook}
}

// listByTheBook asks for the pairs in their order.
func listByTheBook(s set, count int) [][2]int {
	var list [][2]int
	for a := range count {
		for b := range count {
			if s[[2]int{a, b}] {
				list = append(list, [2]int{a, b})
			}
		}
	}
	return list
}
