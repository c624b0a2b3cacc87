package race_test

import (
	"math"
	"math/rand"

	"rendezvous/event"
)

func store(agent, block, at int, b ...byte) event.Event {
	return event.Event{Agent: agent, Kind: event.Store, Block: block, At: at, Size: len(b), Wrote: b}
}

func load(agent, block, at int, b []byte, from ...int) event.Event {
	return event.Event{Agent: agent, Kind: event.Load, Block: block, At: at, Size: len(b), Read: b, From: from}
}

func change(agent, block, at int, read, wrote []byte, from ...int) event.Event {
	return event.Event{Agent: agent, Kind: event.Change, Seq: true, NoTear: true, Block: block, At: at, Size: len(read), Read: read, Wrote: wrote, From: from}
}

func sync(agent int) event.Event { return event.Event{Agent: agent} }

func seq(e event.Event) event.Event {
	e.Seq = true
	return e
}

func noTear(e event.Event) event.Event {
	e.NoTear = true
	return e
}

func logOf(events ...event.Event) event.Log { return event.Log{Events: events} }

// with is a log with pairs.
func with(l event.Log, pairs ...[2]int) event.Log { return event.Log{Events: l.Events, Pairs: pairs} }

// sample is a valid log with events of all kinds, made anew by each call; it has conflicts that are data races, and others.
func sample() event.Log {
	return event.Log{
		Events: []event.Event{
			0: store(0, 2, 4, 1, 2, 3, 4),
			1: sync(63),
			2: load(1, 2, 3, []byte{0, 1, 2}, -1, 0, 0),
			3: change(2, 2, 6, []byte{3, 4}, []byte{0, 9}, 0, 0),
			4: seq(load(3, 2, 6, []byte{0, 4}, 3, 0)),
			5: load(0, 2, 0, []byte{0, 0, 0, 0, 1, 2, 0, 4}, -1, -1, -1, -1, 0, 0, 3, 0),
			6: load(4, 2, 7, []byte{0}, -1),
			7: seq(load(2, 2, 7, []byte{9}, 3)),
		},
		Pairs: [][2]int{{0, 1}, {1, 2}, {1, 2}, {6, 7}},
	}
}

// sampleConflicts are those of the sample, sampleDatas those of them that are data races.
func sampleConflicts() [][2]int { return [][2]int{{0, 3}, {0, 4}, {0, 6}, {0, 7}, {3, 5}, {3, 6}} }
func sampleDatas() [][2]int     { return [][2]int{{0, 3}, {0, 4}, {3, 5}} }

// spoils make the sample a log that is not valid.
func spoils() map[string]func(l *event.Log) {
	return map[string]func(l *event.Log){
		"an agent":             func(l *event.Log) { l.Events[0].Agent = 64 },
		"an agent below 0":     func(l *event.Log) { l.Events[0].Agent = -1 },
		"a kind":               func(l *event.Log) { l.Events[7].Kind = 4 },
		"a Sync with a size":   func(l *event.Log) { l.Events[1].Size = 1 },
		"a Sync that reads":    func(l *event.Log) { l.Events[1].From = []int{0} },
		"a block":              func(l *event.Log) { l.Events[6].Block = 16 },
		"a size":               func(l *event.Log) { l.Events[0].Size = 7 },
		"a great size":         func(l *event.Log) { l.Events[0].Size = math.MaxInt },
		"a byte too few":       func(l *event.Log) { l.Events[2].Read = l.Events[2].Read[1:] },
		"no bytes":             func(l *event.Log) { l.Events[0].Wrote = nil },
		"a plain Change":       func(l *event.Log) { l.Events[3].Seq = false },
		"a byte read":          func(l *event.Log) { l.Events[2].Read[1]++ },
		"a far From":           func(l *event.Log) { l.Events[7].From[0] = math.MaxInt },
		"a From far below":     func(l *event.Log) { l.Events[7].From[0] = math.MinInt },
		"a From of -2":         func(l *event.Log) { l.Events[7].From[0] = -2 },
		"a From of a later":    func(l *event.Log) { l.Events[2].From[1] = 3 },
		"a From of itself":     func(l *event.Log) { l.Events[7].From[0] = 7 },
		"a Store with a From":  func(l *event.Log) { l.Events[0].From = []int{0} },
		"a pair back":          func(l *event.Log) { l.Pairs[0] = [2]int{1, 0} },
		"a pair of one event":  func(l *event.Log) { l.Pairs[0] = [2]int{1, 1} },
		"a pair from -1":       func(l *event.Log) { l.Pairs[0] = [2]int{-1, 1} },
		"a pair to the end":    func(l *event.Log) { l.Pairs[3] = [2]int{1, 8} },
		"a pair to far away":   func(l *event.Log) { l.Pairs[3] = [2]int{math.MinInt, math.MaxInt} },
		"a pair and no events": func(l *event.Log) { l.Events = nil },
		"1001 events":          func(l *event.Log) { l.Events = append(l.Events, make([]event.Event, 993)...) },
		"1001 pairs":           func(l *event.Log) { l.Pairs = append(l.Pairs, make([][2]int, 997)...) },
	}
}

// edges are numbers around which events end, and far ones.
func edges() []int {
	return []int{math.MinInt, math.MinInt + 1, -1 << 32, -1000, -8, -2, -1, 0, 1, 2, 7, 8, 9, 63, 64, 999, 1000, 1001, 1 << 32, 1<<32 + 3, math.MaxInt - 1, math.MaxInt}
}

// deep copies all that a log has.
func deep(l event.Log) event.Log {
	twin := event.Log{Pairs: append([][2]int(nil), l.Pairs...)}
	for _, e := range l.Events {
		e.Read, e.Wrote, e.From = append([]byte(nil), e.Read...), append([]byte(nil), e.Wrote...), append([]int(nil), e.From...)
		twin.Events = append(twin.Events, e)
	}
	return twin
}

// writer makes random logs that are valid.
type writer struct {
	r                 *rand.Rand
	l                 event.Log
	agents, plain, at int
}

// randomLog has n events of a few agents at few ranges; its events are Seq seldom, or often.
func randomLog(r *rand.Rand, n int) event.Log {
	w := writer{r: r, agents: 1 + r.Intn(5), plain: r.Intn(5), at: 1 + r.Intn(6)}
	for range n {
		w.l.Events = append(w.l.Events, w.event())
	}
	for range r.Intn(n/2 + 1) {
		if n > 1 {
			b := 1 + r.Intn(n-1)
			w.l.Pairs = append(w.l.Pairs, [2]int{r.Intn(b), b})
		}
	}
	return w.l
}

func (w *writer) event() event.Event {
	e := event.Event{Agent: w.r.Intn(w.agents), Kind: w.r.Intn(7) / 2}
	if e.Kind == event.Sync {
		return e
	}
	e.Seq, e.NoTear = w.r.Intn(4) >= w.plain || e.Kind == event.Change, w.r.Intn(2) > 0 || e.Kind == event.Change
	e.Block, e.At, e.Size = w.r.Intn(8)/7, w.r.Intn(w.at), 1+(1+w.r.Intn(4))/2
	if e.Kind != event.Store {
		w.read(&e)
	}
	if e.Kind != event.Load {
		for range e.Size {
			e.Wrote = append(e.Wrote, byte(w.r.Intn(3)))
		}
	}
	return e
}

// read fills in what an event reads: each byte from the last event that wrote it, or from any one, or from none.
func (w *writer) read(e *event.Event) {
	for i := range e.Size {
		from, b := -1, byte(0)
		if all := w.writers(e.Block, e.At+i); len(all) > 0 {
			if from = all[len(all)-1]; w.r.Intn(3) == 0 {
				from = append(all, -1)[w.r.Intn(len(all)+1)]
			}
		}
		if from >= 0 {
			b = w.l.Events[from].Wrote[e.At+i-w.l.Events[from].At]
		}
		e.From, e.Read = append(e.From, from), append(e.Read, b)
	}
}

func (w *writer) writers(block, at int) []int {
	var all []int
	for n, e := range w.l.Events {
		if e.Kind >= event.Store && e.Block == block && e.At <= at && at < e.At+e.Size {
			all = append(all, n)
		}
	}
	return all
}
