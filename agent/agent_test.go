package agent_test

import (
	"slices"
	"strings"
	"testing"

	"rendezvous/agent"
	"rendezvous/api"
	"rendezvous/eval"
	"rendezvous/tree"
)

// wrong are trees that early.Check rejects.
func wrong() []api.Tree {
	program := func(nodes ...api.Node) api.Tree {
		return api.Tree{Nodes: append([]api.Node{{Kind: tree.Program, Kids: []int{1}}}, nodes...)}
	}
	return []api.Tree{
		{}, {Nodes: []api.Node{}}, {Nodes: []api.Node{{}}}, {Nodes: []api.Node{{Kind: 99}}}, {Nodes: []api.Node{{Kind: tree.Empty}}},
		program(), program(api.Node{Kind: tree.Number}), program(api.Node{Kind: tree.Expr}), program(api.Node{Kind: tree.Empty, Name: "a"}), program(api.Node{Kind: tree.Expr, Kids: []int{2}}, api.Node{Kind: tree.Number, N: api.Num{N: -1}}),
		// Good trees with an early error.
		program(api.Node{Kind: tree.Break}), program(api.Node{Kind: tree.Continue}), program(api.Node{Kind: tree.Return}), program(api.Node{Kind: tree.Break, Name: "a"}), program(api.Node{Kind: tree.Let, Kids: []int{2, 3}}, api.Node{Kind: tree.Decl, Name: "a"}, api.Node{Kind: tree.Decl, Name: "a"}), program(api.Node{Kind: tree.Const, Kids: []int{2}}, api.Node{Kind: tree.Decl, Name: "a"}),
	}
}

func wrongLimits() []eval.Limits {
	return []eval.Limits{{}, {Heap: -1, Depth: 9, Fuel: 9}, {Heap: api.MaxHeap + 1, Depth: 9, Fuel: 9}, {Heap: 9, Depth: 0, Fuel: 9}, {Heap: 9, Depth: -1, Fuel: 9}, {Heap: 9, Depth: api.MaxDepth + 1, Fuel: 9}, {Heap: 9, Depth: 9, Fuel: -1}, {Heap: 9, Depth: 9, Fuel: api.MaxFuel + 1}, {Heap: 1 << 62, Depth: 1 << 62, Fuel: 1 << 62}, {Heap: -1 << 63, Depth: -1 << 63, Fuel: -1 << 63}}
}

func TestP13_1_NewRejectsTrees(t *testing.T) {
	for i, one := range wrong() {
		// The tree counts ahead of the limits.
		for _, lim := range append(wrongLimits(), wide()) {
			if a, errno := agent.New(one, lim); a != nil || errno != api.ErrForm {
				t.Errorf("tree %d with %v: %v, error %d", i, lim, a, errno)
			}
		}
	}
}

func TestP13_1_NewRejectsLimits(t *testing.T) {
	for _, source := range []string{"", "1", "$262.agent.report(1)"} {
		for _, lim := range wrongLimits() {
			if a, errno := agent.New(accepted(t, source), lim); a != nil || errno != api.ErrRange {
				t.Errorf("%q with %v: %v, error %d", source, lim, a, errno)
			}
		}
		for _, lim := range []eval.Limits{{Heap: 0, Depth: 1, Fuel: 0}, {Heap: 0, Depth: api.MaxDepth, Fuel: api.MaxFuel}, {Heap: api.MaxHeap, Depth: 1, Fuel: api.MaxFuel}, {Heap: api.MaxHeap, Depth: api.MaxDepth, Fuel: 0}, wide()} {
			follow(t, source, accepted(t, source), lim, some(2))
		}
	}
}

// ending is a source that requests nothing, and its end.
type ending struct {
	source string
	end    eval.End
}

func endings() []ending {
	return []ending{
		{"", eval.End{Kind: eval.Done}}, {"let x = 1; x = x + 1", eval.End{Kind: eval.Done}}, {"throw 5", eval.End{Kind: eval.Thrown, Text: ascii("5")}}, {"throw new Error('a')", eval.End{Kind: eval.Thrown, Text: ascii("Error")}}, {"null.x", eval.End{Kind: eval.Thrown, Text: ascii("TypeError")}}, {"throw {}", eval.End{Kind: eval.Thrown, Text: ascii("object")}}, {"throw ''", eval.End{Kind: eval.Thrown}}, {"1 / 2", eval.End{Kind: eval.Exited}}, {"Math", eval.End{Kind: eval.Exited}},
		{"for (;;) new Error", eval.End{Kind: eval.HeapFull}}, {"for (;;) ;", eval.End{Kind: eval.FuelOut}}, {"let f = () => f(); f()", eval.End{Kind: eval.DepthFull}}, {"try { for (;;) ; } catch { throw 1 } finally { throw 2 }", eval.End{Kind: eval.FuelOut}}, {"throw (() => { try { throw 1 } finally { return 2 } })()", eval.End{Kind: eval.Thrown, Text: ascii("2")}},
	}
}

// An agent that has ended tells its end, and takes no answers.
func TestP13_1_Ended(t *testing.T) {
	for _, c := range endings() {
		a := made(t, accepted(t, c.source), wide())
		for n := range 3 {
			if q, e := a.Ask(); told(q, e) != told(eval.Req{}, c.end) || a.Count() != 0 {
				t.Errorf("%s, the time %d: %s", c.source, n, state(a))
			}
			if errno := a.Give(eval.Ans{Word: 1, Code: 2}); errno != api.ErrState {
				t.Errorf("%s: Give: error %d", c.source, errno)
			}
			if b := a.Copy(); state(b) != state(a) || b.Give(eval.Ans{}) != api.ErrState {
				t.Errorf("%s: the copy: %s", c.source, state(b))
			}
		}
	}
}

// dialogue is a program, what it requests, what it is answered, and its end.
type dialogue struct {
	source  string
	asks    []eval.Req
	answers []eval.Ans
	end     eval.End
}

func dialogues() []dialogue {
	report := func(s string) eval.Req { return eval.Req{Kind: eval.Report, Text: ascii(s)} }
	thrown := func(s string) eval.End { return eval.End{Kind: eval.Thrown, Text: ascii(s)} }
	now := eval.Req{Kind: eval.Now}
	return []dialogue{
		{"Atomics.load(new Int32Array(new SharedArrayBuffer(8)), 1)", []eval.Req{{Kind: eval.Make, Len: 8}, {Kind: eval.Load, Block: 3, At: 4, Size: 4, Seq: true, NoTear: true}}, []eval.Ans{{Block: 3}, {Word: 9}}, eval.End{Kind: eval.Done}},
		{"$262.agent.report(1); $262.agent.report(2); throw 3", []eval.Req{report("1"), report("2")}, some(2), thrown("3")},
		{"let t = new Int32Array(new SharedArrayBuffer(8)); t[0] = 5; t[1] += t[0]++; throw Atomics.add(t, 1, 2)",
			[]eval.Req{{Kind: eval.Make, Len: 8}, {Kind: eval.Store, Block: 2, Size: 4, NoTear: true, Word: 5}, {Kind: eval.Load, Block: 2, At: 4, Size: 4, NoTear: true}, {Kind: eval.Load, Block: 2, Size: 4, NoTear: true}, {Kind: eval.Store, Block: 2, Size: 4, NoTear: true, Word: 8}, {Kind: eval.Store, Block: 2, At: 4, Size: 4, NoTear: true, Word: 17}, {Kind: eval.Change, Block: 2, At: 4, Size: 4, Op: 1, Seq: true, NoTear: true, Word: 2}},
			[]eval.Ans{{Block: 2}, {}, {Word: 10}, {Word: 7}, {}, {}, {Word: 1<<32 - 1}}, thrown("-1")},
		{"let n = 0; try { while (true) { n += $262.agent.monotonicNow(); if (n > 9) throw n } } catch (e) { $262.agent.report(e) } finally { $262.agent.sleep(n) }", []eval.Req{now, now, now, report("12"), {Kind: eval.Sleep, N: api.Num{N: 12}}}, []eval.Ans{{Word: 3}, {Word: 4}, {Word: 5}, {}, {}}, eval.End{Kind: eval.Done}},
		{"let f = n => n ? f(n - 1) + $262.agent.monotonicNow() : 0; throw f(3)", []eval.Req{now, now, now}, []eval.Ans{{Word: 1}, {Word: 2}, {Word: 3}}, thrown("6")},
		{"let r; while ((r = $262.agent.getReport()) === null) $262.agent.sleep(1); throw r", []eval.Req{{Kind: eval.GetReport}, {Kind: eval.Sleep, N: api.Num{N: 1}}, {Kind: eval.GetReport}}, []eval.Ans{{Code: 1}, {}, {Text: ascii("hi")}}, thrown("hi")},
		{"$262.agent.receiveBroadcast(b => { let t = new Int32Array(b, 4); throw Atomics.wait(t, 0, 1, 9) + Atomics.notify(t, 0) })", []eval.Req{{Kind: eval.Receive}, {Kind: eval.Wait, Block: 3, At: 4, Size: 4, Want: 1, N: api.Num{N: 9}}, {Kind: eval.Notify, Block: 3, At: 4, N: api.Num{Kind: api.NInf}}}, []eval.Ans{{Block: 3, Len: 8}, {Code: 1}, {Word: 6}}, thrown("not-equal6")},
		{"try { new SharedArrayBuffer(9) } catch (e) { $262.agent.report(e.name); 1 / 2 } finally { $262.agent.report('f') }", []eval.Req{{Kind: eval.Make, Len: 9}, report("RangeError")}, []eval.Ans{{Code: 1}, {}}, eval.End{Kind: eval.Exited}},
		{"throw (() => { for (let i = 0; ; i++) try { if ($262.agent.monotonicNow()) return i } finally { $262.agent.report(i) } })()", []eval.Req{now, report("0"), now, report("1")}, []eval.Ans{{}, {}, {Word: 1}, {}}, thrown("1")},
		// Around the name of a call there are five nodes, and two more for each f that is around it.
		{"let f = () => { $262.agent.monotonicNow(); f() }; f()", slices.Repeat([]eval.Req{now}, 97), make([]eval.Ans, 97), eval.End{Kind: eval.DepthFull}},
	}
}

func TestP13_1_Ask(t *testing.T) {
	for _, d := range dialogues() {
		a := made(t, accepted(t, d.source), wide())
		for n, q := range d.asks {
			for range 2 {
				if p, e := a.Ask(); told(p, e) != told(q, eval.End{}) || a.Count() != n {
					t.Errorf("%s: %s; want %s after %d", d.source, state(a), told(q, eval.End{}), n)
				}
			}
			give(t, a, d.answers[n])
		}
		for range 2 {
			if q, e := a.Ask(); told(q, e) != told(eval.Req{}, d.end) || a.Count() != len(d.asks) {
				t.Errorf("%s: %s; want %s after %d", d.source, state(a), told(eval.Req{}, d.end), len(d.asks))
			}
			if errno := a.Give(eval.Ans{}); errno != api.ErrState {
				t.Errorf("%s: Give: error %d", d.source, errno)
			}
		}
	}
}

// An agent runs on to the next request, and not from its beginning: with thousands
// of answers it would not be seen to end otherwise.
func TestP13_1_LongDialogue(t *testing.T) {
	source := "let l = []; while (l.length < 4000) { let n = 0; while (n < 1) n++; l.push(0); n = $262.agent.monotonicNow(); l.pop(); l.push(n) } throw l[0] + l[3999]"
	one := accepted(t, source)
	a := made(t, one, wide())
	for n := 0; ; n++ {
		q, e := a.Ask()
		if e.Kind != eval.Asks {
			break
		}
		if q.Kind != eval.Now || a.Count() != n {
			t.Fatalf("after %d: %s", n, state(a))
		}
		give(t, a, eval.Ans{Word: uint64(n)})
	}
	answers := []eval.Ans{}
	for n := range a.Count() {
		answers = append(answers, eval.Ans{Word: uint64(n)})
	}
	if got, want := state(a), specified(one, wide(), answers); got != want || a.Count() < 2000 {
		t.Errorf("%s; want %s", got, want)
	}
}

// Copies that are made at each request are given other answers, and neither they
// nor the agent have to do with one another.
func TestP13_1_Copy(t *testing.T) {
	for _, place := range places() {
		one := accepted(t, program(place))
		answers := some(12)
		a := made(t, one, wide())
		copies, given := []*agent.Agent{}, [][]eval.Ans{}
		for n, x := range answers {
			if _, e := a.Ask(); e.Kind != eval.Asks {
				break
			}
			b := a.Copy()
			copies, given = append(copies, b.Copy(), b), append(given, slices.Clone(answers[:n]), append(slices.Clone(answers[:n]), eval.Ans{Word: 2, Code: 1}))
			give(t, b, eval.Ans{Word: 2, Code: 1})
			give(t, a, x)
		}
		was := state(a)
		for i, b := range copies {
			for k := range 4 {
				if got, want := state(b), specified(one, wide(), given[i]); got != want {
					t.Fatalf("%s: copy %d: %s; want %s", place, i, got, want)
				}
				if _, e := b.Ask(); e.Kind != eval.Asks {
					break
				}
				x := eval.Ans{Word: uint64(k * i), Block: k}
				give(t, b, x)
				given[i] = append(given[i], x)
			}
		}
		if state(a) != was {
			t.Errorf("%s: %s; was %s", place, state(a), was)
		}
	}
}

// What is in the heap, in scopes and in buffers of a copy is its own.
func TestP13_1_CopiesOfMemory(t *testing.T) {
	source := "let now = $262.agent.monotonicNow, s = '', l = [1], o = {a: 1}, t = new Int8Array(2), d = new DataView(t.buffer), f = (() => { let n = 0; return () => n++ })();" +
		"while (now() < 9) { s += now(); l.push(now()); o.a += now(); o['k' + now()] = 1; t[0] += now(); d.setInt8(1, now()); f() } throw [s, l.length, l[1], l[2], o.a, Object.keys(o).length, t[0], t[1], f()].pop() + s + l.length + l[1] + l[2] + o.a + Object.keys(o).length + t[0] + t[1]"
	one := accepted(t, source)
	agents, given := []*agent.Agent{made(t, one, wide())}, [][]eval.Ans{nil}
	for n := range 60 {
		i := n * 7 % len(agents)
		if len(agents) < 6 && n%5 == 4 {
			agents, given = append(agents, agents[i].Copy()), append(given, slices.Clone(given[i]))
		}
		x := eval.Ans{Word: uint64(n % 8)}
		if agents[i].Give(x) == api.OK {
			given[i] = append(given[i], x)
		}
	}
	ends := []string{}
	for i, a := range agents {
		for {
			if got, want := state(a), specified(one, wide(), given[i]); got != want {
				t.Fatalf("agent %d: %s; want %s", i, got, want)
			}
			if _, e := a.Ask(); e.Kind != eval.Asks {
				ends = append(ends, state(a))
				break
			}
			give(t, a, eval.Ans{Word: 9})
			given[i] = append(given[i], eval.Ans{Word: 9})
		}
	}
	if slices.Sort(ends); len(slices.Compact(ends)) < 4 {
		t.Errorf("the ends do not differ: %s", strings.Join(ends, "; "))
	}
}
