package early_test

import (
	"math"
	"slices"
	"strings"
	"testing"

	"rendezvous/api"
	"rendezvous/early"
	"rendezvous/tree"
)

// scopes tells what the nodes of a tree declare, those that declare something.
func scopes(one api.Tree) string {
	list := []string{}
	for n, node := range one.Nodes {
		if names := early.Names(one, n); len(names) > 0 {
			list = append(list, kindNames[node.Kind]+" "+strings.Join(names, " "))
		}
	}
	return strings.Join(list, ", ")
}

func checkScopes(t *testing.T, cases map[string]string) {
	t.Helper()
	for s, want := range cases {
		if got := scopes(parsed(t, s)); got != want {
			t.Errorf("the scopes of %q are %q; want %q", s, got, want)
		}
	}
}

func TestP8_1_ProgramsAndBlocks(t *testing.T) {
	checkScopes(t, map[string]string{
		"": "", ";": "", "{}": "", "a; b = c; d(e)": "",
		"let a": "Program a", "let a = b": "Program a", "const a = 1": "Program a", "const a": "Program a", "function f() {}": "Program f",
		"let c, a, b": "Program c a b", "const z = 1, y = 2, x": "Program z y x",
		"let z; const y = 1; function x() {} let w, v; function u() {}": "Program z y x w v u",
		"function f() {} let a":                      "Program f a",
		"x; let a; ; if (b) c; let d; l: e; const g": "Program a d g",
		"{ let a }": "Block a",
		"{ let c, a; const b = 1; function f() {} }":           "Block c a b f",
		"let a; { let b; { const c = 1, d = 2 } let e } let f": "Program a f, Block b e, Block c d",
		"if (a) { let b } else { const c = 1 }":                "Block b, Block c",
		"while (a) { let b }":                                  "Block b",
		"l: { let b }":                                         "Block b",
		"try { let a } catch { let b } finally { let c }":      "Block a, Block b, Block c",
		// What is twice there is told twice.
		"let a, a": "Program a a", "let a; const b = 1; function a() {} let b": "Program a b a b", "{ let b, a, b, a }": "Block b a b a",
		"let $, _, a1, of, get, undefined": "Program $ _ a1 of get undefined",
	})
}

func TestP8_1_ForsAndCatches(t *testing.T) {
	checkScopes(t, map[string]string{
		"for (let i;;) ;": "For i", "for (let j, i = 1; i; j) ;": "For j i", "for (const b = 1, a = 2;;) ;": "For b a", "for (const c;;) ;": "For c",
		"for (;;) ;": "", "for (a; b; c) ;": "", "for (a = b;;) ;": "", "for (let a, a;;) ;": "For a a",
		"for (let i;;) { let j }": "For i, Block j", "for (;;) { let j }": "Block j", "for (let i;;) for (const j = 1;;) ;": "For i, For j",
		"let a; for (let b;;) ; let c": "Program a c, For b",
		// A Function is no Func, and its name is nobody's.
		"for (function f() {};;) ;": "", "for (x => y; z => a; (c, d) => e) ;": "Arrow x, Arrow z, Arrow c d",
		"try {} catch (e) {}": "Catch e", "try {} catch {}": "", "try {} catch {} finally {}": "", "try {} finally {}": "",
		"try { let a } catch (e) { let b, c } finally { let d }":        "Block a, Catch e, Block b c, Block d",
		"try { try {} catch (a) {} } catch (b) { try {} catch (c) {} }": "Catch a, Catch b, Catch c",
	})
}

func TestP8_1_Functions(t *testing.T) {
	checkScopes(t, map[string]string{
		"function f() {}": "Program f", "function f(b, a) {}": "Program f, Func b a", "function f(a, a, b) {}": "Program f, Func a a b", "function f(f) { let f }": "Program f, Func f, Block f",
		"(function () {})": "", "(function f() {})": "", "(function f(a) {})": "Function a", "(function (c, b, a) { let d })": "Function c b a, Block d", "x = function y(z) { function w() {} }": "Function z, Block w",
		"() => a": "", "() => {}": "", "x => x": "Arrow x", "x => y => z": "Arrow x, Arrow y", "(b, a) => { let c }": "Arrow b a, Block c", "(x) => ({ y: 1 })": "Arrow x",
		"function f(a) { function g(b) { function h(c) {} } }":  "Program f, Func a, Block g, Func b, Block h, Func c",
		"let f = function (a) { let b = c => { const d = 1 } }": "Program f, Function a, Block b, Arrow c, Block d",
		"f(b => c, (d, e) => g)":                                "Arrow b, Arrow d e",
	})
}

// Only the scopes declare names, whatever else has one.
func TestP8_1_OtherNodes(t *testing.T) {
	one := parsed(t, "l: for (;;) { if (a) break l; else continue l } let b = c.d; const e = -f, g = h++; x = { i: 1, j }; (function k() {}); try {} catch (m) { n } function o() { return p }")
	for n, node := range one.Nodes {
		names := early.Names(one, n)
		switch node.Kind {
		case tree.Program, tree.Catch:
		default:
			if len(names) > 0 {
				t.Errorf("node %d of kind %d declares %q", n, node.Kind, names)
			}
		}
	}
	if got := scopes(one); got != "Program b e g o, Catch m" {
		t.Errorf("the scopes are %q", got)
	}
}

func TestP8_1_NoSuchNode(t *testing.T) {
	one := parsed(t, "let a")
	for _, n := range []int{-1, -2, len(one.Nodes), len(one.Nodes) + 1, api.MaxNodes, math.MaxInt, math.MinInt} {
		if names := early.Names(one, n); len(names) > 0 {
			t.Errorf("Names(t, %d) = %q", n, names)
		}
		if names := early.Names(api.Tree{}, n); len(names) > 0 {
			t.Errorf("Names of no tree, %d: %q", n, names)
		}
	}
	if names := early.Names(api.Tree{}, 0); len(names) > 0 {
		t.Errorf("Names of no tree: %q", names)
	}
}

// badTrees are not good, each of them for another reason.
func badTrees() []api.Tree {
	node := func(kind int, name string, kids ...int) api.Node {
		return api.Node{Kind: kind, Name: name, Kids: kids}
	}
	program, let, decl := node(tree.Program, "", 1), node(tree.Let, "", 2), node(tree.Decl, "a")
	list := []api.Tree{
		{}, {Nodes: []api.Node{{}}}, {Nodes: []api.Node{let}}, {Nodes: []api.Node{program}}, {Nodes: []api.Node{program, let}},
		{Nodes: []api.Node{node(tree.Block, "", 1), let, decl}},
		{Nodes: []api.Node{program, let, decl, decl}},
		{Nodes: []api.Node{program, node(tree.Let, "", 2, 3), decl}},
		{Nodes: []api.Node{program, node(tree.Let, "", 2, 2), decl}},
		{Nodes: []api.Node{program, node(tree.Let, "", 1), decl}},
		{Nodes: []api.Node{program, node(tree.Let, "", -1), decl}},
		{Nodes: []api.Node{program, node(tree.Let, "", math.MaxInt), decl}},
		{Nodes: []api.Node{program, node(tree.Let, "", math.MinInt), decl}},
		{Nodes: []api.Node{program, node(tree.Let, ""), decl}},
		{Nodes: []api.Node{program, let, node(tree.Decl, "let")}},
		{Nodes: []api.Node{program, let, node(tree.Decl, "")}},
		{Nodes: []api.Node{node(tree.Program, "x", 1), let, decl}},
		{Nodes: []api.Node{node(tree.Program, "", 0), let, decl}},
		{Nodes: []api.Node{program, node(tree.For, ""), decl}},
		{Nodes: []api.Node{program, node(tree.For, "", 2), decl}},
		{Nodes: []api.Node{program, node(tree.Func, "f"), decl}},
		{Nodes: []api.Node{program, node(tree.Label, "l"), decl}},
		{Nodes: []api.Node{program, node(tree.Label, "l", 1)}},
		{Nodes: []api.Node{program, node(tree.Break, "break")}},
		{Nodes: []api.Node{program, node(tree.Program, "")}},
		{Nodes: []api.Node{program, node(99, "")}},
		{Nodes: []api.Node{program, node(-1, "")}},
		{Nodes: []api.Node{program, {Kind: tree.Return, N: api.Num{N: 1}}}},
	}
	wide, deep := api.Tree{Nodes: []api.Node{node(tree.Program, "")}}, api.Tree{Nodes: []api.Node{program}}
	for n := range api.MaxNodes {
		wide.Nodes[0].Kids = append(wide.Nodes[0].Kids, n+1)
		wide.Nodes = append(wide.Nodes, node(tree.Return, ""))
	}
	for n := range api.MaxNest - 1 {
		deep.Nodes = append(deep.Nodes, node(tree.Block, "", n+2))
	}
	return append(list, wide, api.Tree{Nodes: append(deep.Nodes, node(tree.Return, ""))})
}

func TestP8_1_BadTrees(t *testing.T) {
	for i, bad := range badTrees() {
		if tree.May(bad) {
			t.Errorf("tree %d is good", i)
		}
		for n := range len(bad.Nodes) + 1 {
			if names := early.Names(bad, n); len(names) > 0 {
				t.Errorf("Names of tree %d, %d: %q", i, n, names)
			}
			if n > 2*api.MaxNest {
				break
			}
		}
	}
	// One bad node takes the names of all others away.
	one := parsed(t, "let a; { let b } function f(c) {}")
	one.Nodes[len(one.Nodes)-1].Name = "d"
	for n := range one.Nodes {
		if names := early.Names(one, n); len(names) > 0 {
			t.Errorf("Names(t, %d) = %q", n, names)
		}
	}
}

func TestP8_4_NamesAreNewMemory(t *testing.T) {
	one := parsed(t, "let a, b; const c = 1; function f(p, q) {} for (let i, j;;) { function g() {} } try {} catch (e) {}")
	was := copied(one)
	for n := range one.Nodes {
		first, second := early.Names(one, n), early.Names(one, n)
		kept := slices.Clone(second)
		fill(first[:cap(first)], "x")
		_ = append(first, "y")
		if !slices.Equal(second, kept) || !slices.Equal(early.Names(one, n), kept) || !tree.Same(one, was) {
			t.Errorf("Names(t, %d) shares memory", n)
		}
		fill(one.Nodes, api.Node{Kind: 77})
		if !slices.Equal(second, kept) {
			t.Errorf("Names(t, %d) hangs on its argument", n)
		}
		one = copied(was)
	}
}
