package rel_test

import (
	"math"
	"math/rand"

	"rendezvous/event"
	"rendezvous/rel"
)

// relations are the three calls that make one, by their names.
func relations() map[string]func(event.Log) *rel.Rel {
	return map[string]func(event.Log) *rel.Rel{"From": rel.From, "Sync": rel.Sync, "Before": rel.Before}
}

func store(agent, block, at int, b ...byte) event.Event {
	return event.Event{Agent: agent, Kind: event.Store, Block: block, At: at, Size: len(b), Wrote: b}
}

func load(agent, block, at int, b []byte, from ...int) event.Event {
	return event.Event{Agent: agent, Kind: event.Load, Block: block, At: at, Size: len(b), Read: b, From: from}
}

func change(agent, block, at int, read, wrote []byte, from ...int) event.Event {
	return event.Event{Agent: agent, Kind: event.Change, Seq: true, NoTear: true, Block: block, At: at, Size: len(read), Read: read, Wrote: wrote, From: from}
}

func seq(e event.Event) event.Event {
	e.Seq = true
	return e
}

// sample is a valid log with events of all kinds, made anew by each call.
func sample() event.Log {
	return event.Log{
		Events: []event.Event{
			0: store(0, 2, 4, 1, 2, 3, 4),
			1: {Agent: 63},
			2: load(1, 2, 3, []byte{0, 1, 2}, -1, 0, 0),
			3: change(2, 2, 6, []byte{3, 4}, []byte{0, 9}, 0, 0),
			4: seq(load(3, 2, 6, []byte{0, 4}, 3, 0)),
			5: load(0, 2, 0, []byte{0, 0, 0, 0, 1, 2, 0, 9}, -1, -1, -1, -1, 0, 0, 3, 3),
			6: load(0, 3, 4, []byte{0}, -1),
			7: seq(load(2, 2, 7, []byte{9}, 3)),
		},
		Pairs: [][2]int{{0, 1}, {1, 2}, {1, 2}, {6, 7}},
	}
}

// one is a log of one event.
func one(e event.Event) event.Log { return event.Log{Events: []event.Event{e}} }

// deep copies all that a log has.
func deep(l event.Log) event.Log {
	twin := event.Log{Pairs: append([][2]int(nil), l.Pairs...)}
	for _, e := range l.Events {
		e.Read, e.Wrote, e.From = append([]byte(nil), e.Read...), append([]byte(nil), e.Wrote...), append([]int(nil), e.From...)
		twin.Events = append(twin.Events, e)
	}
	return twin
}

// edges are numbers around which events and words of bits end, and far ones.
func edges() []int {
	return []int{math.MinInt, math.MinInt + 1, -1 << 32, -1000, -65, -64, -63, -2, -1, 0, 1, 2, 7, 8, 9, 31, 32, 33, 63, 64, 65, 127, 128, 129, 999, 1000, 1001, 1023, 1024, 1 << 32, math.MaxInt - 1, math.MaxInt}
}

// writer makes random logs that are valid.
type writer struct {
	r      *rand.Rand
	l      event.Log
	agents int
}

// randomLog has n events of a few agents, at few enough ranges that many of them are Equal.
func randomLog(r *rand.Rand, n int) event.Log {
	w := writer{r: r, agents: 1 + r.Intn(8)}
	for range n {
		w.l.Events = append(w.l.Events, w.event())
	}
	for range r.Intn(n/2 + 1) {
		if n > 1 {
			b := 1 + r.Intn(n-1)
			w.l.Pairs = append(w.l.Pairs, [2]int{r.Intn(b), b})
		}
	}
	return w.l
}

func (w *writer) event() event.Event {
	e := event.Event{Agent: w.r.Intn(w.agents), Kind: w.r.Intn(4)}
	if e.Kind == event.Sync {
		return e
	}
	e.Seq, e.NoTear = w.r.Intn(4) > 0 || e.Kind == event.Change, w.r.Intn(2) == 0 || e.Kind == event.Change
	e.Block, e.Size = w.r.Intn(2), 1+w.r.Intn(2)
	e.At = w.r.Intn(3)
	if e.Kind != event.Store {
		w.read(&e)
	}
	if e.Kind != event.Load {
		for range e.Size {
			e.Wrote = append(e.Wrote, byte(w.r.Intn(3)))
		}
	}
	return e
}

// read fills in what an event reads: all of it from one event, or each byte from any event that wrote it.
func (w *writer) read(e *event.Event) {
	last := -1
	for i := range e.Size {
		from, b := -1, byte(0)
		if all := w.writers(e.Block, e.At+i); len(all) > 0 && w.r.Intn(8) > 0 {
			from = all[w.r.Intn(len(all))]
			for _, n := range all {
				if n == last {
					from = n
				}
			}
			b = w.l.Events[from].Wrote[e.At+i-w.l.Events[from].At]
		}
		e.From, e.Read = append(e.From, from), append(e.Read, b)
		if last = from; w.r.Intn(4) == 0 {
			last = -1
		}
	}
}

func (w *writer) writers(block, at int) []int {
	var all []int
	for n, e := range w.l.Events {
		if e.Kind >= event.Store && e.Block == block && e.At <= at && at < e.At+e.Size {
			all = append(all, n)
		}
	}
	return all
}
