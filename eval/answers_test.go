package eval_test

import (
	"slices"
	"testing"

	"rendezvous/api"
	"rendezvous/early"
	"rendezvous/eval"
	"rendezvous/text"
)

// Answers behind the end of a program are ignored, and so is what an answer says
// that its request does not ask for.
func TestP12_1_MoreAnswers(t *testing.T) {
	full := eval.Ans{Word: 5, Code: 0, Block: 6, Len: 7, Text: ascii("x")}
	for _, c := range []asked{
		{"", []eval.Ans{full}, "done"}, {"throw 1", []eval.Ans{full, full}, "thrown 1"}, {"1 / 2", []eval.Ans{full}, "exited"}, {"let f = () => f(); f()", []eval.Ans{full}, "depth"}, {"for (;;) ;", []eval.Ans{full}, "fuel"}, {"for (;;) []", []eval.Ans{full}, "heap"},
		{"throw $262.agent.report(1)", []eval.Ans{full, full, full}, "thrown undefined"}, {"throw $262.agent.sleep(1)", []eval.Ans{full}, "thrown undefined"}, {"throw $262.agent.start('')", []eval.Ans{{Code: 1}}, "thrown undefined"}, {"throw $262.agent.getReport()", []eval.Ans{full, full}, "thrown x"}, {"throw $262.agent.monotonicNow()", []eval.Ans{full, full}, "thrown 5"}, {"throw $262.agent.monotonicNow()", []eval.Ans{{Word: 5, Code: 1}}, "thrown 5"},
	} {
		if got := next(t, c.source, wide(), c.answers...); got != c.want {
			t.Errorf("%s: %s; want %s", c.source, got, c.want)
		}
	}
}

// dialogue is a program, its answers, and what it does after none of them, after
// the first one, and so on.
type dialogue struct {
	source  string
	answers []eval.Ans
	want    []string
}

func dialogues() []dialogue {
	return []dialogue{
		{"$262.agent.report(1); $262.agent.report(2); throw 3", make([]eval.Ans, 2), []string{"Report 1", "Report 2", "thrown 3"}},
		{"let t = new Int32Array(new SharedArrayBuffer(8)); t[0] = 5; t[1] = t[0] + 1; throw Atomics.add(t, 1, 2)", []eval.Ans{{Block: 2}, {}, {Word: 7}, {}, {Word: 9}}, []string{"Make len 8", "Store block 2 size 4 whole word 5", "Load block 2 size 4 whole", "Store block 2 at 4 size 4 whole word 8", "Change block 2 at 4 size 4 op 1 seq whole word 2", "thrown 9"}},
		{"let n = 0, t = new Int32Array(new SharedArrayBuffer(4)); while (Atomics.load(t, 0) !== 3) n++; $262.agent.report(n)", []eval.Ans{{Block: 1}, {}, {Word: 2}, {Word: 3}, {}}, []string{"Make len 4", "Load block 1 size 4 seq whole", "Load block 1 size 4 seq whole", "Load block 1 size 4 seq whole", "Report 2", "done"}},
		{"let r; while ((r = $262.agent.getReport()) === null) $262.agent.sleep(1); throw r", []eval.Ans{{Code: 1}, {}, {Code: 1}, {}, {Text: ascii("hi")}}, []string{"GetReport", "Sleep n 1", "GetReport", "Sleep n 1", "GetReport", "thrown hi"}},
		{"$262.agent.start('x'); let s = new SharedArrayBuffer(4); $262.agent.broadcast(s); throw Atomics.wait(new Int32Array(s), 0, 0, 9)", []eval.Ans{{}, {Block: 4}, {}, {Code: 2}}, []string{"Start x", "Make len 4", "Broadcast block 4 len 4", "Wait block 4 size 4 n 9", "thrown timed-out"}},
		{"$262.agent.receiveBroadcast(b => { let t = new Int32Array(b); t[0] = 1; throw Atomics.notify(t, 0, 1) })", []eval.Ans{{Block: 3, Len: 4}, {}, {Word: 1}}, []string{"Receive", "Store block 3 size 4 whole word 1", "Notify block 3 n 1", "thrown 1"}},
		{"try { new SharedArrayBuffer(9) } catch (e) { $262.agent.report(e.name) } finally { $262.agent.report('f') }", []eval.Ans{{Code: 1}, {}, {}}, []string{"Make len 9", "Report RangeError", "Report f", "done"}},
		{"try { $262.agent.report(1) } finally { $262.agent.report(2) }", make([]eval.Ans, 2), []string{"Report 1", "Report 2", "done"}},
		{"let d = new DataView(new SharedArrayBuffer(8)); for (let i = 0; i < 2; i++) d.setInt16(i * 2, d.getInt16(i) + 1)", []eval.Ans{{}, {Word: 256}, {}, {Word: 512}, {}}, []string{"Make len 8", "Load size 2", "Store size 2 word 512", "Load at 1 size 2", "Store at 2 size 2 word 768", "done"}},
		{"let f = n => n ? f(n - 1) + $262.agent.monotonicNow() : 0; throw f(3)", []eval.Ans{{Word: 1}, {Word: 2}, {Word: 3}}, []string{"Now", "Now", "Now", "thrown 6"}},
	}
}

func TestP12_3_Dialogues(t *testing.T) {
	for _, d := range dialogues() {
		one := accepted(t, d.source)
		for k, want := range d.want {
			if got := told(eval.Next(one, wide(), d.answers[:k])); got != want {
				t.Errorf("%s after %d answers: %s; want %s", d.source, k, got, want)
			}
		}
		// What comes behind the end changes nothing.
		last := d.want[len(d.want)-1]
		if got := told(eval.Next(one, wide(), append(slices.Clone(d.answers), eval.Ans{Code: 5}, eval.Ans{}))); got != last {
			t.Errorf("%s after its end: %s; want %s", d.source, got, last)
		}
	}
}

// samples are many random programs; a few of them are not taken.
func samples(count int64) []api.Tree {
	list := []api.Tree{}
	for seed := range count {
		if one, _, errno := early.Accept([]byte(newWriter(seed).program())); errno == api.OK {
			list = append(list, one)
		}
	}
	return list
}

// After some of the answers, a program requests what it has requested before it
// got the others, whatever stands behind them in memory.
func TestP12_3_RandomPrograms(t *testing.T) {
	requests := 0
	for i, one := range samples(500) {
		list, answers, end := played(one, wide(), 40)
		requests += len(list)
		for k := range list {
			if k%5 != 0 && k != len(list)-1 {
				continue
			}
			q, e := eval.Next(one, wide(), roomyAnswers(answers[:k]))
			if told(q, e) != requested(list[k]) {
				t.Errorf("program %d after %d answers: %s; want %s", i, k, told(q, e), requested(list[k]))
			}
		}
		if len(list) == 40 {
			continue
		}
		for range 2 {
			answers = append(answers, eval.Ans{Word: 3, Code: 4})
			if q, e := eval.Next(one, wide(), answers); told(q, e) != told(eval.Req{}, end) {
				t.Errorf("program %d behind its end: %s", i, told(q, e))
			}
		}
	}
	if requests < 1000 {
		t.Errorf("only %d requests", requests)
	}
}

// isLimit reports whether a limit ended a run.
func isLimit(e eval.End) bool {
	return e.Kind == eval.HeapFull || e.Kind == eval.DepthFull || e.Kind == eval.FuelOut
}

func TestP12_4_GreaterLimits(t *testing.T) {
	for _, c := range needs() {
		one := accepted(t, c.source)
		want := told(eval.Next(one, wide(), some()))
		for heap := max(0, c.Heap-2); heap < c.Heap+3; heap++ {
			for depth := max(1, c.Depth-2); depth < c.Depth+3; depth++ {
				for fuel := max(0, c.Fuel-2); fuel < c.Fuel+3; fuel++ {
					q, e := eval.Next(one, eval.Limits{Heap: heap, Depth: depth, Fuel: fuel}, some())
					enough := heap >= c.Heap && depth >= c.Depth && fuel >= c.Fuel
					if enough && told(q, e) != want {
						t.Errorf("%s with %d, %d, %d: %s; want %s", c.source, heap, depth, fuel, told(q, e), want)
					}
					if !enough && (!isLimit(e) || e.Kind == eval.HeapFull && heap >= c.Heap || e.Kind == eval.DepthFull && depth >= c.Depth || e.Kind == eval.FuelOut && fuel >= c.Fuel) {
						t.Errorf("%s with %d, %d, %d: %s", c.source, heap, depth, fuel, told(q, e))
					}
				}
			}
		}
	}
}

// A program that is not ended by its limits does the same with greater ones, and
// one that is has requested the same until then.
func TestP12_4_RandomPrograms(t *testing.T) {
	ended, limited := 0, 0
	for i, one := range samples(300) {
		list, answers, end := played(one, wide(), 30)
		last := told(eval.Next(one, wide(), answers))
		w := newWriter(int64(i))
		for range 12 {
			lim := eval.Limits{Heap: w.Intn(120), Depth: 1 + w.Intn(30), Fuel: w.Intn(1500)}
			k := w.Intn(len(answers) + 1)
			q, e := eval.Next(one, lim, answers[:k])
			if isLimit(e) {
				limited++
				continue
			}
			ended++
			want := last
			if k < len(list) {
				want = requested(list[k])
			}
			if told(q, e) != want {
				t.Errorf("program %d with %v after %d answers: %s; want %s, %v", i, lim, k, told(q, e), want, end)
			}
		}
	}
	if ended < 300 || limited < 300 {
		t.Errorf("%d ended, %d met their limits", ended, limited)
	}
}

// Once a limit lets a program end, each greater one does.
func TestP12_4_Thresholds(t *testing.T) {
	for i, one := range samples(6) {
		_, answers, end := played(one, wide(), 20)
		want := told(eval.Next(one, wide(), answers))
		if isLimit(end) {
			continue
		}
		check := func(what string, most int, lim func(int) eval.Limits) {
			met := false
			for n := range most {
				if n == 0 && what == "depth" {
					continue
				}
				q, e := eval.Next(one, lim(n), answers)
				if met && told(q, e) != want || !met && !isLimit(e) && told(q, e) != want {
					t.Errorf("program %d with %s %d: %s; want %s", i, what, n, told(q, e), want)
				}
				met = met || !isLimit(e)
			}
			if !met {
				t.Errorf("program %d: %s %d is not enough", i, what, most)
			}
		}
		check("heap", 500, func(n int) eval.Limits { return eval.Limits{Heap: n, Depth: api.MaxDepth, Fuel: api.MaxFuel} })
		check("depth", 120, func(n int) eval.Limits { return eval.Limits{Heap: api.MaxHeap, Depth: n, Fuel: api.MaxFuel} })
	}
}

func TestP12_1_SameAgain(t *testing.T) {
	for i, one := range samples(100) {
		_, answers, _ := played(one, wide(), 10)
		first := told(eval.Next(one, wide(), answers))
		for range 2 {
			if got := told(eval.Next(one, wide(), slices.Clone(answers))); got != first {
				t.Errorf("program %d: %s, then %s", i, first, got)
			}
		}
	}
}

// The printed text of a tree is not asked for; the tree alone counts.
func TestP12_1_TreesWithoutSource(t *testing.T) {
	long := make([]uint16, api.MaxText)
	one := accepted(t, "throw 'x'")
	one.Nodes[2].Str = long
	if _, e := eval.Next(one, wide(), nil); e.Kind != eval.Thrown || !text.Same(e.Text, long) {
		t.Errorf("a long text: %d, %d units", e.Kind, len(e.Text))
	}
	one = accepted(t, "let o = {a: 1}; throw o['a'] + o.a")
	for i, node := range one.Nodes {
		if plain(node.Str) == "a" {
			one.Nodes[i].Str = long
		}
	}
	if got := told(eval.Next(one, wide(), nil)); got != "thrown NaN" {
		t.Errorf("a long key: %s", got)
	}
}
