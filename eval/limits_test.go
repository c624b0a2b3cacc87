package eval_test

import (
	"strings"
	"testing"

	"rendezvous/api"
	"rendezvous/eval"
	"rendezvous/tree"
)

func TestP12_1_May(t *testing.T) {
	good := []eval.Limits{{0, 1, 0}, {4096, 200, 100000}, {0, 200, 0}, {4096, 1, 0}, {0, 1, 100000}, {300, 90, 4000}}
	for _, lim := range good {
		if !eval.May(lim) {
			t.Errorf("%v is not valid", lim)
		}
	}
	bad := []eval.Limits{{}, {-1, 1, 0}, {4097, 1, 0}, {0, 0, 0}, {0, -1, 0}, {0, 201, 0}, {0, 1, -1}, {0, 1, 100001}, {-1, 0, -1}, {1 << 40, 1 << 40, 1 << 40}, {-1 << 63, 100, 1000}, {100, 100, 1<<63 - 1}, {100, -1 << 63, 100}}
	for _, lim := range bad {
		if eval.May(lim) {
			t.Errorf("%v is valid", lim)
		}
	}
}

// What is not valid is not executed, whatever answers there are.
func TestP12_1_NotExecuted(t *testing.T) {
	answers := []eval.Ans{{Word: 1, Text: ascii("a")}, {Code: 1}}
	report := accepted(t, "$262.agent.report(1)")
	for _, lim := range []eval.Limits{{}, {-1, 1, 10}, {4097, 10, 10}, {10, 0, 10}, {10, 201, 10}, {10, 10, -1}, {10, 10, 100001}} {
		if got := told(eval.Next(report, lim, nil)); got != "nothing" {
			t.Errorf("with the limits %v: %s", lim, got)
		}
		if got := told(eval.Next(report, lim, answers)); got != "nothing" {
			t.Errorf("with the limits %v and answers: %s", lim, got)
		}
	}
	program := api.Node{Kind: tree.Program}
	for i, nodes := range [][]api.Node{nil, {}, {{}}, {{Kind: tree.Empty}}, {{Kind: 99}}, {program, {Kind: tree.Empty}}, {{Kind: tree.Program, Kids: []int{0}}}, {{Kind: tree.Program, Kids: []int{5}}}, {{Kind: tree.Program, Kids: []int{-1}}}, {{Kind: tree.Program, Name: "a"}},
		{{Kind: tree.Program, Kids: []int{1}}, {Kind: tree.Number, N: api.Num{N: 1}}}, {{Kind: tree.Program, Kids: []int{1}}, {Kind: tree.Expr}}, {{Kind: tree.Program, Kids: []int{1}}, {Kind: tree.Expr, Kids: []int{2}}, {Kind: tree.Number, N: api.Num{Kind: api.NNaN}}},
		// Good trees with an early error.
		{{Kind: tree.Program, Kids: []int{1}}, {Kind: tree.Break}}, {{Kind: tree.Program, Kids: []int{1}}, {Kind: tree.Return}}, {{Kind: tree.Program, Kids: []int{1}}, {Kind: tree.Let, Kids: []int{2, 3}}, {Kind: tree.Decl, Name: "a"}, {Kind: tree.Decl, Name: "a"}},
		{{Kind: tree.Program, Kids: []int{1}}, {Kind: tree.Const, Kids: []int{2}}, {Kind: tree.Decl, Name: "a"}}} {
		if got := told(eval.Next(api.Tree{Nodes: nodes}, wide(), answers)); got != "nothing" {
			t.Errorf("tree %d: %s", i, got)
		}
	}
	if got := told(eval.Next(api.Tree{Nodes: []api.Node{program}}, wide(), answers)); got != "done" {
		t.Errorf("the empty program: %s", got)
	}
}

// need is what a source needs to end as it does with the greatest limits.
type need struct {
	source string
	eval.Limits
}

// needs are samples with the least limits that they need.
func needs() []need {
	return []need{
		{"", eval.Limits{Heap: 1, Depth: 1, Fuel: 0}}, {";", eval.Limits{Heap: 1, Depth: 1, Fuel: 1}}, {"1", eval.Limits{Heap: 1, Depth: 2, Fuel: 2}}, {"{ }", eval.Limits{Heap: 1, Depth: 1, Fuel: 1}}, {"{ ; { ; } ; }", eval.Limits{Heap: 1, Depth: 3, Fuel: 5}}, {"1; 2; ;", eval.Limits{Heap: 1, Depth: 2, Fuel: 5}},
		// Scopes are made for names only; a Program always has one.
		{"let a", eval.Limits{Heap: 1, Depth: 1, Fuel: 1}}, {"let a = 1, b, c = 2", eval.Limits{Heap: 1, Depth: 2, Fuel: 3}}, {"const a = 1", eval.Limits{Heap: 1, Depth: 2, Fuel: 2}}, {"{ let a }", eval.Limits{Heap: 2, Depth: 2, Fuel: 2}}, {"{ ; const a = 1; let b }", eval.Limits{Heap: 2, Depth: 3, Fuel: 5}}, {"{ { let a } { let b } { } }", eval.Limits{Heap: 3, Depth: 3, Fuel: 6}},
		{"if (1) ;", eval.Limits{Heap: 1, Depth: 2, Fuel: 3}}, {"if (0) 1", eval.Limits{Heap: 1, Depth: 2, Fuel: 2}}, {"if (0) ; else { ; }", eval.Limits{Heap: 1, Depth: 3, Fuel: 4}}, {"if (1) { let a } else { let b }", eval.Limits{Heap: 2, Depth: 3, Fuel: 4}},
		{"while (0) ;", eval.Limits{Heap: 1, Depth: 2, Fuel: 2}}, {"let i = 0; while (i < 2) i++", eval.Limits{Heap: 1, Depth: 3, Fuel: 16}}, {"let i = 0; while (i < 2) { let a = i++ }", eval.Limits{Heap: 3, Depth: 4, Fuel: 18}}, {"while (1) break", eval.Limits{Heap: 1, Depth: 2, Fuel: 3}},
		{"for (; false; 1) ;", eval.Limits{Heap: 1, Depth: 2, Fuel: 2}}, {"for (;;) break", eval.Limits{Heap: 1, Depth: 2, Fuel: 2}}, {"for (1; 0; 2) ;", eval.Limits{Heap: 1, Depth: 2, Fuel: 3}}, {"let i; for (i = 0; i < 1; i++) ;", eval.Limits{Heap: 1, Depth: 3, Fuel: 12}},
		{"for (let i = 0; i < 2; i++) ;", eval.Limits{Heap: 5, Depth: 3, Fuel: 16}}, {"let n = 0; for (let i = 0; n < 2;) n++", eval.Limits{Heap: 5, Depth: 3, Fuel: 18}}, {"for (let i;;) break", eval.Limits{Heap: 3, Depth: 2, Fuel: 3}}, {"for (let i, j = 0; false;) ;", eval.Limits{Heap: 3, Depth: 3, Fuel: 4}}, {"for (const i = 0; i < 0;) ;", eval.Limits{Heap: 2, Depth: 3, Fuel: 6}}, {"let n = 0; for (const i = 2; n < i;) n++", eval.Limits{Heap: 2, Depth: 3, Fuel: 18}}, {"for (let i = 0; i < 1; i++) { let a }", eval.Limits{Heap: 5, Depth: 3, Fuel: 12}},
		{"a: ;", eval.Limits{Heap: 1, Depth: 2, Fuel: 2}}, {"a: b: break a", eval.Limits{Heap: 1, Depth: 3, Fuel: 3}}, {"a: { break a; ; }", eval.Limits{Heap: 1, Depth: 3, Fuel: 3}}, {"throw 1", eval.Limits{Heap: 1, Depth: 2, Fuel: 2}},
		{"try { } finally { }", eval.Limits{Heap: 1, Depth: 2, Fuel: 3}}, {"try { } catch { ; }", eval.Limits{Heap: 1, Depth: 2, Fuel: 2}}, {"try { throw 1 } catch { }", eval.Limits{Heap: 1, Depth: 4, Fuel: 5}}, {"try { throw 1 } catch (e) { }", eval.Limits{Heap: 2, Depth: 4, Fuel: 5}}, {"try { throw 1 } catch (e) { let a } finally { const b = 1 }", eval.Limits{Heap: 4, Depth: 4, Fuel: 9}}, {"try { } catch (e) { let a }", eval.Limits{Heap: 1, Depth: 2, Fuel: 2}},
		// Functions.
		{"function f() { ; }", eval.Limits{Heap: 3, Depth: 1, Fuel: 1}}, {"{ function f() { } }", eval.Limits{Heap: 4, Depth: 2, Fuel: 2}}, {"function f() { } function g() { } { ; }", eval.Limits{Heap: 5, Depth: 2, Fuel: 4}}, {"() => 1", eval.Limits{Heap: 2, Depth: 2, Fuel: 2}}, {"(a) => { ; }", eval.Limits{Heap: 2, Depth: 2, Fuel: 2}}, {"(function () { })", eval.Limits{Heap: 3, Depth: 2, Fuel: 2}}, {"(function f(a) { })", eval.Limits{Heap: 4, Depth: 2, Fuel: 2}},
		{"(() => 1)()", eval.Limits{Heap: 3, Depth: 3, Fuel: 4}}, {"(() => { })()", eval.Limits{Heap: 3, Depth: 3, Fuel: 3}}, {"(() => { ; })()", eval.Limits{Heap: 3, Depth: 3, Fuel: 4}}, {"(a => { let b })(1)", eval.Limits{Heap: 3, Depth: 3, Fuel: 5}}, {"(() => { { let a } })()", eval.Limits{Heap: 4, Depth: 4, Fuel: 5}}, {"(() => { { ; ; } })()", eval.Limits{Heap: 3, Depth: 4, Fuel: 6}}, {"(function () { })()", eval.Limits{Heap: 4, Depth: 3, Fuel: 3}}, {"(function f() { return 1 })()", eval.Limits{Heap: 5, Depth: 4, Fuel: 5}}, {"(() => { function g() { } })()", eval.Limits{Heap: 5, Depth: 3, Fuel: 4}},
		{"f(); f(); function f() { }", eval.Limits{Heap: 5, Depth: 3, Fuel: 7}}, {"function f(n) { if (n) f(n - 1) } f(2)", eval.Limits{Heap: 6, Depth: 10, Fuel: 23}}, {"new (function () { })", eval.Limits{Heap: 5, Depth: 3, Fuel: 3}}, {"new (function () { return [] })(1, 2)", eval.Limits{Heap: 6, Depth: 4, Fuel: 7}},
		// Expressions.
		{"[]", eval.Limits{Heap: 2, Depth: 2, Fuel: 2}}, {"[1, [2], 3]", eval.Limits{Heap: 3, Depth: 4, Fuel: 6}}, {"({})", eval.Limits{Heap: 2, Depth: 2, Fuel: 2}}, {"({a: 1, b: {}})", eval.Limits{Heap: 3, Depth: 3, Fuel: 4}}, {"'a'; 1n; true; null; undefined", eval.Limits{Heap: 1, Depth: 2, Fuel: 10}}, {"-1", eval.Limits{Heap: 1, Depth: 3, Fuel: 3}}, {"typeof a", eval.Limits{Heap: 1, Depth: 3, Fuel: 3}}, {"typeof a; typeof a; typeof a", eval.Limits{Heap: 1, Depth: 3, Fuel: 9}}, {"typeof typeof 1", eval.Limits{Heap: 1, Depth: 4, Fuel: 4}},
		{"1 + 2", eval.Limits{Heap: 1, Depth: 3, Fuel: 4}}, {"1 && 2", eval.Limits{Heap: 1, Depth: 3, Fuel: 4}}, {"0 && 2", eval.Limits{Heap: 1, Depth: 3, Fuel: 3}}, {"1 || -2", eval.Limits{Heap: 1, Depth: 3, Fuel: 3}}, {"1 ? 2 : -3", eval.Limits{Heap: 1, Depth: 3, Fuel: 4}}, {"0 ? -2 : 3", eval.Limits{Heap: 1, Depth: 3, Fuel: 4}},
		// Targets do not begin; what they contain does.
		{"let a; a = 1", eval.Limits{Heap: 1, Depth: 3, Fuel: 4}}, {"let a = 1; a += 1", eval.Limits{Heap: 1, Depth: 3, Fuel: 5}}, {"let a; a++", eval.Limits{Heap: 1, Depth: 2, Fuel: 3}}, {"let a; --a", eval.Limits{Heap: 1, Depth: 2, Fuel: 3}}, {"({}).a = 1", eval.Limits{Heap: 2, Depth: 3, Fuel: 4}}, {"({}).a++", eval.Limits{Heap: 2, Depth: 3, Fuel: 3}}, {"[][0] = 1", eval.Limits{Heap: 2, Depth: 3, Fuel: 5}}, {"[[]][0][0] = 1", eval.Limits{Heap: 3, Depth: 5, Fuel: 8}}, {"({a: 1})['a'] -= 1", eval.Limits{Heap: 2, Depth: 4, Fuel: 6}},
		{"({}).a", eval.Limits{Heap: 2, Depth: 3, Fuel: 3}}, {"({})['a']", eval.Limits{Heap: 2, Depth: 3, Fuel: 4}},
		// What is called begins, and ends ahead of the arguments.
		{"[].push(1)", eval.Limits{Heap: 2, Depth: 4, Fuel: 5}}, {"[].push(-(-(1)))", eval.Limits{Heap: 2, Depth: 5, Fuel: 7}}, {"[]['push'](1)", eval.Limits{Heap: 2, Depth: 4, Fuel: 6}}, {"Object.keys({})", eval.Limits{Heap: 3, Depth: 4, Fuel: 5}}, {"Number(1)", eval.Limits{Heap: 1, Depth: 3, Fuel: 4}}, {"Array.isArray(Array)", eval.Limits{Heap: 1, Depth: 4, Fuel: 5}}, {"Object.keys([1])", eval.Limits{Heap: 3, Depth: 4, Fuel: 6}}, {"Object.create(null)", eval.Limits{Heap: 2, Depth: 4, Fuel: 5}},
		// Errors and buffers.
		{"null.x", eval.Limits{Heap: 2, Depth: 3, Fuel: 3}}, {"a", eval.Limits{Heap: 2, Depth: 2, Fuel: 2}}, {"new Error", eval.Limits{Heap: 2, Depth: 3, Fuel: 3}}, {"Error(1)", eval.Limits{Heap: 2, Depth: 3, Fuel: 4}}, {"try { a } catch { } try { b } catch (e) { }", eval.Limits{Heap: 4, Depth: 4, Fuel: 10}}, {"1 / 2", eval.Limits{Heap: 1, Depth: 3, Fuel: 4}},
		{"new ArrayBuffer(8)", eval.Limits{Heap: 2, Depth: 3, Fuel: 4}}, {"new Int8Array(1)", eval.Limits{Heap: 3, Depth: 3, Fuel: 4}}, {"new Int8Array(new ArrayBuffer(8))", eval.Limits{Heap: 3, Depth: 4, Fuel: 6}}, {"new DataView(new ArrayBuffer(8))", eval.Limits{Heap: 3, Depth: 4, Fuel: 6}}, {"new Int8Array(1)[0]", eval.Limits{Heap: 3, Depth: 4, Fuel: 6}},
		{"new SharedArrayBuffer(8)", eval.Limits{Heap: 2, Depth: 3, Fuel: 4}}, {"$262.agent.receiveBroadcast(() => 1)", eval.Limits{Heap: 4, Depth: 5, Fuel: 7}}, {"$262.agent.getReport()", eval.Limits{Heap: 1, Depth: 5, Fuel: 5}},
	}
}

// some are answers for whatever is requested.
func some() []eval.Ans { return make([]eval.Ans, 9) }

func TestP12_1_Limits(t *testing.T) {
	for _, c := range needs() {
		want := next(t, c.source, wide(), some()...)
		if strings.Contains("heap depth fuel asks", want) {
			t.Errorf("%s: %s", c.source, want)
		}
		check := func(heap, depth, fuel int, want string) {
			t.Helper()
			if got := next(t, c.source, eval.Limits{Heap: heap, Depth: depth, Fuel: fuel}, some()...); got != want {
				t.Errorf("%s with %d, %d, %d: %s; want %s", c.source, heap, depth, fuel, got, want)
			}
		}
		check(c.Heap, c.Depth, c.Fuel, want)
		check(c.Heap-1, c.Depth, c.Fuel, "heap")
		for heap := range c.Heap {
			check(heap, api.MaxDepth, api.MaxFuel, "heap")
		}
		if c.Depth > 1 {
			check(c.Heap, c.Depth-1, c.Fuel, "depth")
			check(api.MaxHeap, c.Depth-1, api.MaxFuel, "depth")
		}
		if c.Fuel > 0 {
			check(c.Heap, c.Depth, c.Fuel-1, "fuel")
			check(api.MaxHeap, api.MaxDepth, c.Fuel-1, "fuel")
		}
	}
}

// Of several limits, the one that is met first ends the run; the depth ahead of the fuel.
func TestP12_1_WhichLimit(t *testing.T) {
	for _, c := range []struct {
		source string
		lim    eval.Limits
		want   string
	}{
		{"1", eval.Limits{Heap: 1, Depth: 1, Fuel: 1}, "depth"}, {"1", eval.Limits{Heap: 1, Depth: 1, Fuel: 0}, "fuel"}, {"1", eval.Limits{Heap: 0, Depth: 1, Fuel: 0}, "heap"}, {"", eval.Limits{Heap: 0, Depth: 1, Fuel: 0}, "heap"}, {"null.x", eval.Limits{Heap: 1, Depth: 3, Fuel: 2}, "fuel"}, {"null.x", eval.Limits{Heap: 1, Depth: 2, Fuel: 3}, "depth"},
		{"{ let a }", eval.Limits{Heap: 1, Depth: 1, Fuel: 1}, "heap"}, {"{ let a }", eval.Limits{Heap: 1, Depth: 1, Fuel: 0}, "fuel"}, {"function f() { }", eval.Limits{Heap: 2, Depth: 1, Fuel: 0}, "heap"}, {"for (let i = -1;;) ;", eval.Limits{Heap: 1, Depth: 1, Fuel: 1}, "heap"}, {"for (let i = -1;;) ;", eval.Limits{Heap: 2, Depth: 1, Fuel: 1}, "depth"}, {"for (let i = -1;;) ;", eval.Limits{Heap: 2, Depth: 9, Fuel: 9}, "heap"},
		{"[-1]", eval.Limits{Heap: 1, Depth: 2, Fuel: 2}, "heap"}, {"({a: -1})", eval.Limits{Heap: 1, Depth: 2, Fuel: 2}, "heap"}, {"(() => -1)()", eval.Limits{Heap: 2, Depth: 3, Fuel: 3}, "heap"}, {"try { throw 1 } catch (e) { }", eval.Limits{Heap: 1, Depth: 9, Fuel: 4}, "heap"}, {"try { throw 1 } catch (e) { }", eval.Limits{Heap: 2, Depth: 9, Fuel: 4}, "fuel"},
		{"new (function () { -1 })", eval.Limits{Heap: 3, Depth: 3, Fuel: 3}, "heap"}, {"new (function () { -1 })", eval.Limits{Heap: 4, Depth: 3, Fuel: 3}, "heap"}, {"new (function () { -1 })", eval.Limits{Heap: 5, Depth: 3, Fuel: 3}, "fuel"},
	} {
		if got := next(t, c.source, c.lim); got != c.want {
			t.Errorf("%s with %v: %s; want %s", c.source, c.lim, got, c.want)
		}
	}
}

// Stops are not held up by anything around them.
func TestP12_1_Stops(t *testing.T) {
	around := []string{"@", "try { @ } catch { throw 5 }", "try { @ } catch (e) { throw 5 } finally { throw 6 }", "a: try { @ } finally { break a }", "for (;;) { try { @ } finally { break } }", "a: for (;;) { for (let i = 0;;) { try { @ } finally { break a } } }", "(() => { try { @ } finally { return 1 } })()", "try { throw 1 } catch { @ } finally { throw 7 }", "try { throw 1 } finally { @ }", "try { } finally { try { @ } finally { throw 8 } }", "while (true) { try { @ } finally { if (true) break } }", "new (function () { try { @ } catch (e) { } })", "{ let a; try { { let b; @ } } catch { throw 5 } }", "typeof (() => { try { @ } catch { } })()"}
	for _, c := range [][2]string{{"1 / 2", "exited"}, {"Math", "exited"}, {"$262.agent.report(1)", "Report 1"}, {"for (;;) ;", "fuel"}, {"for (;;) new Error", "heap"}, {"let f = () => f(); f()", "depth"}, {"function f() { try { f() } finally { throw 2 } } f()", "depth"}, {"throw this.x", "exited"}} {
		for _, outer := range around {
			source := strings.ReplaceAll(outer, "@", "{ "+c[0]+" }")
			if c[0] == "throw this.x" && (strings.Contains(source, "new") || strings.Contains(source, "function")) {
				continue
			}
			if got := next(t, source, wide()); got != c[1] {
				t.Errorf("%s: %s; want %s", source, got, c[1])
			}
		}
	}
}

func TestP12_1_GreatLimits(t *testing.T) {
	checkEnds(t, map[string]string{
		"for (;;) ;": "fuel", "for (;;) [];": "heap", "let f = () => f(); f()": "depth", "function f(n) { return n ? f(n - 1) : 0 } throw f(65)": "thrown 0", "function f(n) { return n ? f(n - 1) : 0 } throw f(66)": "depth",
		"let n = 0; while (n < 4094) { n++; let a } throw n": "thrown 4094", "let n = 0; for (let i = 0; i < 4000; i++) n++; throw n": "thrown 4000", "let n = 0; for (let i = 0; i < 4095; i++) n++; throw n": "heap", "let n = 0; while (n < 19998) n++; throw n": "thrown 19998", "let n = 0; while (n < 19999) n++; throw n": "fuel",
	})
}
