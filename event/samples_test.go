package event_test

import (
	"math"
	"math/rand"

	"rendezvous/api"
	"rendezvous/event"
)

func store(agent, block, at int, b ...byte) event.Event {
	return event.Event{Agent: agent, Kind: event.Store, Block: block, At: at, Size: len(b), Wrote: b}
}

func load(agent, block, at int, b []byte, from ...int) event.Event {
	return event.Event{Agent: agent, Kind: event.Load, Block: block, At: at, Size: len(b), Read: b, From: from}
}

func change(agent, block, at int, read, wrote []byte, from ...int) event.Event {
	return event.Event{Agent: agent, Kind: event.Change, Seq: true, NoTear: true, Block: block, At: at, Size: len(read), Read: read, Wrote: wrote, From: from}
}

func ranged(kind, block, at, size int) event.Event {
	return event.Event{Kind: kind, Block: block, At: at, Size: size}
}

// sample is a valid log with events of all kinds, made anew by each call.
func sample() event.Log {
	return event.Log{
		Events: []event.Event{
			0: store(0, 2, 4, 1, 2, 3, 4),
			1: {Agent: 63},
			2: load(1, 2, 3, []byte{0, 1, 2}, -1, 0, 0),
			3: change(2, 2, 6, []byte{3, 4}, []byte{0, 9}, 0, 0),
			4: store(3, 2, 7, 8),
			5: load(0, 2, 0, []byte{0, 0, 0, 0, 1, 2, 0, 8}, -1, -1, -1, -1, 0, 0, 3, 4),
			6: load(0, 3, 4, []byte{0}, -1),
			7: {Agent: 2, Kind: event.Load, Seq: true, Block: 2, At: 7, Size: 1, Read: []byte{9}, From: []int{3}},
		},
		Pairs: [][2]int{{0, 1}, {1, 2}, {0, 7}, {1, 2}, {6, 7}, {3, 4}},
	}
}

// one is a log of one event.
func one(e event.Event) event.Log { return event.Log{Events: []event.Event{e}} }

// deep copies all that a log has.
func deep(l event.Log) event.Log {
	twin := event.Log{Pairs: append([][2]int(nil), l.Pairs...)}
	for _, e := range l.Events {
		e.Read, e.Wrote, e.From = append([]byte(nil), e.Read...), append([]byte(nil), e.Wrote...), append([]int(nil), e.From...)
		twin.Events = append(twin.Events, e)
	}
	return twin
}

// spoil is one change of a log.
type spoil struct {
	name   string
	change func(*event.Log)
}

// edges are numbers around which the rules of a log lie, and far ones.
func edges() []int {
	return []int{math.MinInt, math.MinInt + 1, -1 << 32, -256, -2, -1, 0, 1, 2, 3, 4, 5, 6, 7, 8, 9, 15, 16, 17, 63, 64, 65, 247, 248, 249, 255, 256, 257, 1000, 1 << 32, 1<<32 + 1, math.MaxInt - 8, math.MaxInt - 1, math.MaxInt}
}

// writer makes random logs that are valid.
type writer struct {
	r *rand.Rand
	l event.Log
}

// randomLog has up to n events, close enough to one another that many of them overlap.
func randomLog(r *rand.Rand, n int) event.Log {
	w := writer{r: r}
	for range n {
		w.l.Events = append(w.l.Events, w.event())
	}
	for range r.Intn(2*n + 1) {
		if n > 1 {
			b := 1 + r.Intn(n-1)
			w.l.Pairs = append(w.l.Pairs, [2]int{r.Intn(b), b})
		}
	}
	return w.l
}

func (w *writer) event() event.Event {
	e := event.Event{Agent: w.r.Intn(api.MaxAgents), Kind: w.r.Intn(4)}
	if e.Kind == event.Sync {
		return e
	}
	e.Seq, e.NoTear = w.r.Intn(2) == 0 || e.Kind == event.Change, w.r.Intn(2) == 0 || e.Kind == event.Change
	e.Block, e.Size = []int{0, 0, 0, 1, api.MaxBlocks - 1}[w.r.Intn(5)], 1+w.r.Intn(8)
	e.At = w.r.Intn(6)
	if w.r.Intn(4) == 0 {
		e.At = api.MaxBlock - e.Size - w.r.Intn(3)
	}
	if e.Kind != event.Store {
		w.read(&e)
	}
	if e.Kind != event.Load {
		for range e.Size {
			e.Wrote = append(e.Wrote, byte(w.r.Intn(3)))
		}
	}
	return e
}

// read fills in what an event reads, from any event that wrote it.
func (w *writer) read(e *event.Event) {
	for i := range e.Size {
		from, b := -1, byte(0)
		if all := w.writers(e.Block, e.At+i); len(all) > 0 && w.r.Intn(5) > 0 {
			from = all[w.r.Intn(len(all))]
			b = w.l.Events[from].Wrote[e.At+i-w.l.Events[from].At]
		}
		e.From, e.Read = append(e.From, from), append(e.Read, b)
	}
}

func (w *writer) writers(block, at int) []int {
	var all []int
	for n, e := range w.l.Events {
		if e.Kind >= event.Store && e.Block == block && e.At <= at && at < e.At+e.Size {
			all = append(all, n)
		}
	}
	return all
}

// spoiled changes one thing at a random place; the log may still be valid.
func spoiled(r *rand.Rand, l event.Log) event.Log {
	l = deep(l)
	if len(l.Events) == 0 || r.Intn(8) == 0 && len(l.Pairs) > 0 {
		for i := range l.Pairs {
			l.Pairs[i][r.Intn(2)] = pick(r)
		}
		return l
	}
	e := &l.Events[r.Intn(len(l.Events))]
	number := []*int{&e.Agent, &e.Kind, &e.Block, &e.At, &e.Size}
	bytes, truth := []*[]byte{&e.Read, &e.Wrote}[r.Intn(2)], []*bool{&e.Seq, &e.NoTear}[r.Intn(2)]
	switch r.Intn(6) {
	case 0:
		*number[r.Intn(5)] = pick(r)
	case 1:
		*number[r.Intn(5)] += r.Intn(3) - 1
	case 2:
		*truth = !*truth
	case 3:
		*bytes = resized(r, *bytes, byte(r.Intn(3)))
	case 4:
		e.From = resized(r, e.From, r.Intn(len(l.Events)+2)-2)
	case 5:
		if len(e.From) > 0 {
			e.From[r.Intn(len(e.From))] = pick(r)
		}
	}
	return l
}

func pick(r *rand.Rand) int { return edges()[r.Intn(len(edges()))] }

// resized adds or replaces an item, or takes one away.
func resized[T any](r *rand.Rand, list []T, x T) []T {
	switch way := r.Intn(5); {
	case way == 0:
		return append(list, x)
	case len(list) == 0:
		return list
	case way == 1:
		return list[:len(list)-1]
	}
	list[r.Intn(len(list))] = x
	return list
}
