package tree

import (
	"fmt"
	"math/rand"
	"slices"
	"strings"
	"testing"

	"rendezvous/api"
	"rendezvous/text"
)

// checkMay holds May against an answer.
func checkMay(t *testing.T, tree api.Tree, want bool) {
	t.Helper()
	if May(tree) != want {
		t.Errorf("May(%s) = %v", shown(tree), !want)
	}
}

// checkReference holds May against the reference, and answers what it is.
func checkReference(t *testing.T, tree api.Tree) bool {
	t.Helper()
	want := referenceMay(tree)
	if May(tree) != want {
		t.Fatalf("May(%s) = %v", shown(tree), !want)
	}
	return want
}

// shown tells a tree by the kinds of its nodes and their kids.
func shown(tree api.Tree) string {
	var b strings.Builder
	for i, node := range tree.Nodes[:min(len(tree.Nodes), 30)] {
		fmt.Fprintf(&b, " %d:%d %.20s", i, node.Kind, node.Name)
		for _, kid := range node.Kids[:min(len(node.Kids), 30)] {
			fmt.Fprintf(&b, " >%d", kid)
		}
	}
	return b.String()
}

// nested has nodes of one kind in one another, so many in all with the Program
// and the innermost one.
func nested(count int, around func(sub) sub, inner sub) api.Tree {
	for range count - 2 {
		inner = around(inner)
	}
	return program(inner)
}

func blocks(count int) api.Tree {
	return nested(count, func(s sub) sub { return a(Block, s) }, a(Empty))
}

func empties(count int) api.Tree {
	return program(slices.Repeat([]sub{a(Empty)}, count-1)...)
}

func TestP6_1_Kinds(t *testing.T) {
	for i, kind := range []int{Program, Empty, Expr, Block, Let, Const, Decl, If, While, For, Nothing, Break, Continue, Return, Throw, Try, Catch, Label, Func, Param} {
		if kind != 1+i {
			t.Errorf("kind %d is %d", 1+i, kind)
		}
	}
	for i, kind := range []int{Number, Big, String, Name, True, False, Null, This, Array, Object, Prop, Function, Arrow, Unary, Pre, Post, Binary, Logic, Cond, Assign, Call, New, Dot, Index} {
		if kind != 30+i {
			t.Errorf("kind %d is %d", 30+i, kind)
		}
	}
}

// goodNodes are good nodes of all kinds; each is asked for in its place.
func goodNodes() []sub {
	x, e, block, none, empty := id("x"), a(This), a(Block), a(Nothing), a(Empty)
	p, decl := named(Param, "p"), named(Decl, "x")
	list := []sub{
		a(Program), a(Program, empty, a(Let, decl), a(Const, decl), named(Func, "f", block)),
		empty, a(Expr, e), block, a(Block, empty, a(Let, decl), a(Const, decl), named(Func, "f", block)),
		a(Let, decl), a(Let, decl, named(Decl, "y", e)), a(Const, decl), a(Const, named(Decl, "x", e), decl), decl, named(Decl, "x", e),
		a(If, e, empty), a(If, e, empty, empty), a(While, e, block), a(For, none, none, none, empty), a(For, a(Let, decl), e, e, empty),
		a(For, a(Const, decl), none, e, empty), a(For, e, e, none, empty), none, a(Break), named(Break, "l"), a(Continue), named(Continue, "l"),
		a(Return), a(Return, e), a(Throw, e), a(Try, block, a(Catch, block), none), a(Try, block, none, block), a(Try, block, named(Catch, "e", block), block),
		a(Catch, block), named(Catch, "e", block), named(Label, "l", empty), named(Label, "l", a(Expr, e)), named(Func, "f", block), named(Func, "f", p, p, block), p,
		number(0), number(api.MaxSafe), bigInt(), bigInt(0, 1), bigInt(1, 2, 3, 4, 5, 6, 7, 8), str(), str(0xD800, 0), x, a(True), a(False), a(Null), e,
		a(Array), a(Array, e, x), a(Object), a(Object, prop("", e), prop("a b", x)), prop("", e),
		a(Function, block), named(Function, "f", p, p, block), a(Arrow, block), a(Arrow, p, p, block), a(Arrow, e), a(Arrow, p, e),
		a(Cond, e, e, e), a(Call, e), a(Call, e, x, e), a(New, e), a(New, e, x, e), a(Index, e, x),
	}
	for _, s := range strings.Fields(unarySigns) {
		list = append(list, named(Unary, s, e))
	}
	for _, s := range strings.Fields(stepSigns) {
		list = append(list, named(Pre, s, x), named(Post, s, named(Dot, "y", e)), named(Pre, s, a(Index, e, e)))
	}
	for _, s := range strings.Fields(pairSigns) {
		list = append(list, named(Binary, s, e, e))
	}
	for _, s := range strings.Fields(logicSigns) {
		list = append(list, named(Logic, s, e, e))
	}
	for _, s := range strings.Fields(setSigns) {
		list = append(list, named(Assign, s, x, e), named(Assign, s, named(Dot, "y", e), e), named(Assign, s, a(Index, e, e), e))
	}
	for _, s := range strings.Fields(words + " a $ _9 undefined") {
		list = append(list, named(Dot, s, e))
	}
	return list
}

func TestP6_1_MayGood(t *testing.T) {
	kinds := map[int]bool{}
	for _, s := range goodNodes() {
		checkMay(t, of(s), true)
		kinds[s.node.Kind] = true
	}
	for kind := range rows {
		if !kinds[kind] {
			t.Errorf("no good node of the kind %d", kind)
		}
	}
	for i, tree := range Trees(1, 3000) {
		if !May(tree) || !referenceMay(tree) {
			t.Fatalf("May of tree %d:%s", i, shown(tree))
		}
	}
}

func TestP6_1_MayBad(t *testing.T) {
	x, e, block, none, empty := id("x"), a(Null), a(Block), a(Nothing), a(Empty)
	decl, p := named(Decl, "x"), named(Param, "p")
	let, fixed, function := a(Let, decl), a(Const, decl), named(Func, "f", block)
	list := []sub{
		a(Program, a(Program)), a(Program, e), a(Program, decl), a(Program, none), a(Program, p), a(Program, a(Catch, block)), a(Program, prop("a", e)),
		a(Empty, empty), a(Expr), a(Expr, empty), a(Expr, e, e), a(Expr, a(Expr, e)), a(Expr, none), a(Expr, prop("a", e)), a(Block, e), a(Block, a(Program)),
		a(Let), a(Const), a(Let, e), a(Let, x), a(Const, decl, x), named(Decl, "x", e, e), named(Decl, "x", empty), named(Decl, "x", none),
		a(If, e), a(If, empty, empty), a(If, e, empty, empty, empty), a(If, e, e), a(If, e, empty, e), a(If, e, empty, none),
		a(If, e, let), a(If, e, fixed), a(If, e, function), a(If, e, empty, let), a(If, e, empty, fixed), a(If, e, empty, function), a(If, e, let, empty),
		a(While, e), a(While, empty), a(While, e, empty, empty), a(While, e, let), a(While, e, fixed), a(While, e, function), a(While, none, empty),
		a(For, none, none, empty), a(For, none, none, none), a(For, none, none, none, e), a(For, none, none, none, none), a(For, none, none, none, empty, empty),
		a(For, decl, none, none, empty), a(For, empty, none, none, empty), a(For, none, let, none, empty), a(For, none, none, let, empty), a(For, none, fixed, none, empty),
		a(For, none, none, none, let), a(For, none, none, none, fixed), a(For, none, none, none, function), a(For, function, none, none, empty),
		a(Nothing, empty), a(Break, e), a(Continue, id("l")), a(Return, empty), a(Return, e, e), a(Return, none), a(Throw), a(Throw, empty), a(Throw, e, e),
		a(Try, block), a(Try, block, none, none), a(Try, block, block), a(Try, block, block, none), a(Try, block, a(Catch, block), a(Catch, block)),
		a(Try, block, none, a(Catch, block)), a(Try, empty, none, block), a(Try, block, none, empty), a(Try, none, none, block), a(Try, block, block, block),
		a(Try, block, a(Catch, block)), a(Try, block, a(Catch, block), block, block), a(Catch), a(Catch, empty), a(Catch, p, block), a(Catch, block, block), a(Catch, none),
		named(Label, "l"), named(Label, "l", e), named(Label, "l", empty, empty), named(Label, "l", let), named(Label, "l", fixed), named(Label, "l", function), named(Label, "l", none),
		named(Func, "f"), named(Func, "f", p), named(Func, "f", block, p), named(Func, "f", block, block), named(Func, "f", x, block), named(Func, "f", p, e), named(Func, "f", p, block, p),
		named(Param, "p", e), a(Function), a(Function, p), a(Function, e), a(Function, p, x), a(Function, p, block, block), a(Arrow), a(Arrow, p), a(Arrow, p, empty),
		a(Arrow, e, e), a(Arrow, block, e), a(Arrow, x, block), a(Arrow, p, a(Expr, e)), named(Name, "x", e), a(True, e), a(False, e), a(Null, e), a(This, e),
		a(Array, empty), a(Array, none), a(Array, e, prop("a", e)), a(Object, e), a(Object, decl), a(Object, prop("a", e), e), a(Object, prop("a", prop("a", e))),
		named(Unary, "-"), named(Unary, "-", e, e), named(Unary, "-", empty), named(Pre, "++"), named(Pre, "++", e), named(Pre, "++", x, x), named(Post, "--", a(Call, x)), named(Post, "--", a(Array)),
		named(Pre, "++", a(Cond, x, x, x)), named(Binary, "+", e), named(Binary, "+", e, e, e), named(Binary, "+", e, empty), named(Logic, "&&", e), named(Logic, "&&", none, e), a(Cond, e, e), a(Cond, e, e, e, e), a(Cond, e, e, empty),
		named(Assign, "=", x), named(Assign, "=", e, x), named(Assign, "=", x, empty), named(Assign, "=", x, e, e), named(Assign, "=", a(Array, x), e), named(Assign, "=", a(Object), e), named(Assign, "=", decl, e),
		a(Call), a(Call, empty), a(Call, e, empty), a(Call, e, prop("a", e)), a(New), a(New, empty), a(New, e, none), named(Dot, "a"), named(Dot, "a", e, e), named(Dot, "a", empty), a(Index, e), a(Index), a(Index, e, e, e), a(Index, empty, e),
		a(0), a(-1), a(21), a(22), a(25), a(29), a(54), a(55), a(99), a(0, e), a(29, empty), a(1<<40, e), a(-1 << 40),
	}
	for _, s := range list {
		checkMay(t, of(s), false)
		checkMay(t, program(a(Expr, s)), false)
		checkReference(t, of(s))
	}
	for kind := -3; kind < maxKind+10; kind++ {
		// Only a Program is a tree by itself, and it is one nowhere else.
		checkMay(t, laid(common(kind)), kind == Program)
		checkMay(t, laid(a(kind, a(Empty))), kind == Program)
		checkMay(t, laid(a(Program, a(Block, a(Program)))), false)
	}
	checkMay(t, api.Tree{}, false)
	checkMay(t, api.Tree{Nodes: []api.Node{}}, false)
}

// eachKids calls check with all lists of so many kinds.
func eachKids(kinds []int, size int, check func(kids []sub)) {
	if size == 0 {
		check(nil)
		return
	}
	for _, kind := range kinds {
		eachKids(kinds, size-1, func(kids []sub) { check(append([]sub{common(kind)}, kids...)) })
	}
}

func allKinds() []int {
	list := []int{}
	for kind := range maxKind + 2 {
		list = append(list, kind)
	}
	return list
}

func TestP6_1_MayKidsOfEachKind(t *testing.T) {
	good := 0
	sizes := [][]int{nil, allKinds(), allKinds(),
		{Program, Empty, Block, Let, Const, Func, Decl, Nothing, Catch, Param, Prop, Number, Name, Dot, Call, If},
		{Block, Let, Nothing, Param, Null, Empty}}
	for kind := range maxKind + 2 {
		for size, kinds := range sizes {
			eachKids(kinds, size, func(kids []sub) {
				s := common(kind)
				s.kids = kids
				if checkReference(t, of(s)) {
					good++
				}
			})
		}
	}
	if good < 5000 {
		t.Errorf("only %d trees are good", good)
	}
}

func TestP6_1_MayNames(t *testing.T) {
	list := strings.Fields(strings.Join([]string{words, unarySigns, stepSigns, pairSigns, logicSigns, setSigns, "x $ _ A9 Z of typeofx If => ? ?? . ... ** **= &&= - -- --- += + a-b a.b é ab\x00 9 9a delete instanceof undefined"}, " "))
	list = append(list, "", " ", "x ", " x", "+ ", " +", "a b", "typeof ", "\x00", "\xFF", "in\n", strings.Repeat("a", most), strings.Repeat("a", most+1), strings.Repeat("é", 10))
	good := 0
	for kind := range maxKind + 2 {
		for _, name := range list {
			s := common(kind)
			s.node.Name = name
			if checkReference(t, of(s)) {
				good++
			}
		}
	}
	if good < 200 {
		t.Errorf("only %d trees are good", good)
	}
	for _, name := range []string{"if", "yield", "eval", "arguments"} {
		for _, s := range []sub{named(Decl, name), named(Label, name, a(Empty)), named(Func, name, a(Block)), named(Param, name), id(name), named(Break, name), named(Catch, name, a(Block)), named(Function, name, a(Block))} {
			checkMay(t, of(s), false)
		}
		checkMay(t, of(named(Dot, name, a(Null))), true)
	}
}

func TestP6_1_MayOtherFields(t *testing.T) {
	check := func(kind int, change func(node *api.Node)) {
		s := common(kind)
		change(&s.node)
		checkReference(t, of(s))
	}
	numbers := []api.Num{{N: 1}, {N: -1}, {N: api.MaxSafe}, {N: api.MaxSafe + 1}, {N: -api.MaxSafe}, {N: 1 << 62}, {Kind: api.NNegZero}, {Kind: api.NNaN}, {Kind: api.NInf}, {Kind: api.NNegInf}, {Kind: 5}, {Kind: -1}, {Kind: api.NInf, N: 1}}
	bigs := []api.Big{{}, {Neg: true}, {Mag: []uint32{}}, {Mag: []uint32{1}}, {Neg: true, Mag: []uint32{1}}, {Mag: []uint32{0}}, {Mag: []uint32{1, 0}}, {Mag: []uint32{0, 1}}, {Mag: make([]uint32, 8)}, {Mag: []uint32{0, 0, 0, 0, 0, 0, 0, 1}}, {Mag: []uint32{0, 0, 0, 0, 0, 0, 0, 0, 1}}}
	texts := [][]uint16{{}, {0}, {'a'}, {0xFFFF}, make([]uint16, most), make([]uint16, most+1)}
	for kind := range maxKind + 2 {
		for _, n := range numbers {
			check(kind, func(node *api.Node) { node.N = n })
		}
		for _, b := range bigs {
			check(kind, func(node *api.Node) { node.B = b })
		}
		for _, u := range texts {
			check(kind, func(node *api.Node) { node.Str = u })
		}
	}
	for _, s := range []sub{{node: api.Node{Kind: Number, N: api.Num{N: -1}}}, {node: api.Node{Kind: Number, N: api.Num{Kind: api.NNegZero}}}, {node: api.Node{Kind: Number, N: api.Num{N: api.MaxSafe + 1}}},
		{node: api.Node{Kind: Big, B: api.Big{Neg: true, Mag: []uint32{1}}}}, bigInt(1, 0), bigInt(1, 1, 1, 1, 1, 1, 1, 1, 1), str(make([]uint16, most+1)...), prop(strings.Repeat("a", most+1), a(Null))} {
		checkMay(t, of(s), false)
	}
	checkMay(t, of(str(make([]uint16, most)...)), true)
	checkMay(t, of(prop(strings.Repeat("a", most), a(Null))), true)
	checkMay(t, program(sub{node: api.Node{Kind: Empty, Str: []uint16{}, B: api.Big{Mag: []uint32{}}, Kids: []int{}}}), true)
}

func TestP6_1_MayShortIf(t *testing.T) {
	e := id("a")
	around := []func(s sub) sub{
		func(s sub) sub { return a(If, e, s) },
		func(s sub) sub { return a(If, e, s, a(Empty)) },
		func(s sub) sub { return a(If, e, a(Empty), s) },
		func(s sub) sub { return a(If, e, a(If, e, a(Empty)), s) },
		func(s sub) sub { return a(While, e, s) },
		func(s sub) sub { return a(For, a(Nothing), a(Nothing), a(Nothing), s) },
		func(s sub) sub { return named(Label, "l", s) },
		func(s sub) sub { return a(Block, s) },
		func(s sub) sub { return a(Try, a(Block, s), a(Nothing), a(Block)) },
		func(s sub) sub { return a(Expr, a(Function, a(Block, s))) },
	}
	good, bad := 0, 0
	var check func(s sub, levels int)
	check = func(s sub, levels int) {
		if checkReference(t, program(s)) {
			good++
		} else {
			bad++
		}
		for _, f := range around {
			if levels > 0 {
				check(f(s), levels-1)
			}
		}
	}
	check(a(Empty), 4)
	if good < 1000 || bad < 1000 {
		t.Errorf("%d trees are good, and %d bad", good, bad)
	}
	short := a(If, e, a(Empty))
	checkMay(t, program(a(If, e, short, a(Empty))), false)
	checkMay(t, program(a(If, e, a(While, e, named(Label, "l", short)), a(Empty))), false)
	checkMay(t, program(a(If, e, a(If, e, a(Empty), short), a(Empty))), false)
	checkMay(t, program(a(If, e, a(If, e, a(Empty), a(Empty)), short)), true)
	checkMay(t, program(a(If, e, a(Block, short), a(Empty))), true)
	checkMay(t, program(a(If, e, a(Empty), short)), true)
	checkMay(t, program(a(If, e, short)), true)
}

func TestP6_1_MayOrder(t *testing.T) {
	first, block, empty := api.Node{Kind: Program, Kids: []int{1}}, api.Node{Kind: Block, Kids: []int{2}}, api.Node{Kind: Empty}
	made := func(nodes ...api.Node) api.Tree { return api.Tree{Nodes: nodes} }
	with := func(node api.Node, kids ...int) api.Node {
		node.Kids = kids
		return node
	}
	checkMay(t, made(first, block, empty), true)
	for i, tree := range []api.Tree{
		made(first), made(first, block), made(with(first), empty), made(with(first, 0)), made(with(first, -1), empty), made(with(first, 2), empty), made(with(first, 2), empty, empty),
		made(with(first, 1, 1), empty), made(with(first, 1, 1), empty, empty), made(with(first, 2, 1), empty, empty), made(with(first, 1, 3), empty, empty, empty), made(with(first, 1, 2, 3), empty, empty),
		made(first, block, empty, empty), made(with(first, 1, 2), block, empty), made(with(first, 1, 2), with(block, 3), empty, empty), made(with(first, 1, 3, 2), block, empty, empty),
		made(first, with(block, 0)), made(first, with(block, 1)), made(first, with(block, 2, 0), empty), made(first, with(block, 3, 2), empty, empty), made(with(first, 1<<62), empty), made(with(first, -1<<62), empty),
		made(empty, first), made(with(block, 1), first), made(with(first, 1, -1), empty), made(with(first, 1, 0), empty),
	} {
		if May(tree) || referenceMay(tree) {
			t.Errorf("case %d: May(%s)", i, shown(tree))
		}
	}
	// All lists of kids of three nodes.
	lists := [][]int{nil}
	for i := 0; len(lists[i]) < 3; i++ {
		for kid := -1; kid < 4; kid++ {
			lists = append(lists, append(slices.Clone(lists[i]), kid))
		}
	}
	for _, l := range lists {
		for _, m := range lists[:31] {
			for _, k := range lists[:31] {
				checkReference(t, made(with(first, l...), with(block, m...), with(block, k...)))
			}
		}
	}
}

func TestP6_1_MayLimits(t *testing.T) {
	if api.MaxNest != 48 || api.MaxNodes != 4096 {
		t.Fatal("other limits")
	}
	checkMay(t, blocks(48), true)
	checkMay(t, blocks(49), false)
	checkMay(t, blocks(4096), false)
	checkMay(t, blocks(100000), false)
	minus := func(s sub) sub { return named(Unary, "-", s) }
	checkMay(t, program(a(Expr, part(nested(47, minus, a(Null)), 1))), true)
	checkMay(t, program(a(Expr, part(nested(48, minus, a(Null)), 1))), false)
	// What is deep may lie anywhere.
	checkMay(t, program(a(Empty), part(blocks(48), 1), a(Empty)), true)
	checkMay(t, program(a(Empty), part(blocks(49), 1), a(Empty)), false)
	checkMay(t, program(part(blocks(48), 1), part(blocks(49), 1)), false)
	checkMay(t, program(slices.Repeat([]sub{part(blocks(48), 1)}, 80)...), true)
	checkMay(t, empties(4096), true)
	checkMay(t, empties(4097), false)
	checkMay(t, empties(100000), false)
	wide := a(Block, slices.Repeat([]sub{a(Block, slices.Repeat([]sub{a(Empty)}, 62)...)}, 64)...)
	checkMay(t, program(wide, slicesOf(62)), true)
	checkMay(t, program(wide, slicesOf(63)), false)
}

// slicesOf is a Block with that many nodes, itself among them.
func slicesOf(count int) sub { return a(Block, slices.Repeat([]sub{a(Empty)}, count-1)...) }

// mutated is a copy of a tree with a few changes, which mostly are for the worse.
func mutated(r maker, t api.Tree) api.Tree {
	t = copied(t)
	for range 1 + r.Intn(2) {
		n := r.Intn(len(t.Nodes))
		node, other := &t.Nodes[n], t.Nodes[r.Intn(len(t.Nodes))]
		switch r.Intn(11) {
		case 0:
			node.Kind = r.Intn(maxKind + 3)
		case 1, 2:
			node.Kind = other.Kind
		case 3:
			node.Name = other.Name
		case 4:
			node.Kind, node.Name = other.Kind, other.Name
		case 5:
			node.Str = r.units()
		case 6:
			node.N = api.Num{Kind: r.Intn(2), N: r.Intn(3) - 1}
		case 7:
			node.B = api.Big{Neg: r.Intn(2) == 0, Mag: make([]uint32, r.Intn(2))}
		case 8:
			node.Kids = slices.Clone(other.Kids)
		case 9:
			if len(node.Kids) > 0 {
				node.Kids[r.Intn(len(node.Kids))] += r.Intn(3) - 1
			}
		case 10:
			t.Nodes = t.Nodes[:max(1, len(t.Nodes)-r.Intn(2))]
		}
	}
	return t
}

func TestP6_1_MayMutated(t *testing.T) {
	r, good, bad := maker{rand.New(rand.NewSource(2))}, 0, 0
	for _, tree := range Trees(3, 4000) {
		for range 5 {
			if checkReference(t, mutated(r, tree)) {
				good++
			} else {
				bad++
			}
		}
	}
	if good < 2000 || bad < 5000 {
		t.Errorf("%d trees are good, and %d bad", good, bad)
	}
}

// variants are trees that differ from t in one field each.
func variants(t api.Tree) []api.Tree {
	list := []api.Tree{{Nodes: t.Nodes[:len(t.Nodes)-1]}, {Nodes: append(copied(t).Nodes, api.Node{})}, {Nodes: t.Nodes[1:]}}
	for n := range t.Nodes {
		for _, change := range []func(node *api.Node){
			func(node *api.Node) { node.Kind++ },
			func(node *api.Node) { node.Name += "z" },
			func(node *api.Node) { node.Name = "Z" + node.Name },
			func(node *api.Node) { node.Str = append(node.Str, 0) },
			func(node *api.Node) { node.Str = append([]uint16{7}, node.Str...) },
			func(node *api.Node) { node.N.N++ },
			func(node *api.Node) { node.N.Kind++ },
			func(node *api.Node) { node.B.Neg = !node.B.Neg },
			func(node *api.Node) { node.B.Mag = append(node.B.Mag, 0) },
			func(node *api.Node) { node.B.Mag = append([]uint32{7}, node.B.Mag...) },
			func(node *api.Node) { node.Kids = append(node.Kids, 0) },
			func(node *api.Node) { node.Kids = append([]int{-1}, node.Kids...) },
		} {
			other := copied(t)
			change(&other.Nodes[n])
			list = append(list, other)
		}
		if other := copied(t); len(other.Nodes[n].Kids) > 0 {
			other.Nodes[n].Kids[len(other.Nodes[n].Kids)-1]++
			list = append(list, other)
		}
		if other := copied(t); len(other.Nodes[n].Str) > 0 {
			other.Nodes[n].Str[len(other.Nodes[n].Str)-1] ^= 0x8000
			list = append(list, other)
		}
		if other := copied(t); len(other.Nodes[n].B.Mag) > 0 {
			other.Nodes[n].B.Mag[len(other.Nodes[n].B.Mag)-1]++
			list = append(list, other)
		}
	}
	return list
}

func TestP6_1_Same(t *testing.T) {
	many := append(Trees(4, 30), program(), of(str(1, 2)), of(bigInt(1, 2)), of(prop("ab", number(1))))
	for i, one := range many {
		if !Same(one, one) || !Same(one, copied(one)) {
			t.Errorf("tree %d is not the same as itself", i)
		}
		for k, other := range variants(one) {
			// Good or not, a tree is the same as itself, and as no other one.
			if Same(one, other) || Same(other, one) || !Same(other, copied(other)) {
				t.Errorf("tree %d: variant %d of%s", i, k, shown(one))
			}
		}
	}
	none, empty := api.Tree{Nodes: []api.Node{{}}}, api.Tree{Nodes: []api.Node{{Str: []uint16{}, Kids: []int{}, B: api.Big{Mag: []uint32{}}}}}
	if !Same(none, empty) || !Same(empty, none) || !Same(api.Tree{}, api.Tree{Nodes: []api.Node{}}) || Same(api.Tree{}, none) || Same(none, api.Tree{}) {
		t.Error("Same of empty lists")
	}
	swapped := api.Tree{Nodes: []api.Node{{Kind: 1}, {Kind: 2}}}
	if Same(swapped, api.Tree{Nodes: []api.Node{{Kind: 2}, {Kind: 1}}}) {
		t.Error("Same of nodes in another order")
	}
}

func TestP6_1_Nest(t *testing.T) {
	e := a(Null)
	for want, list := range map[int][]api.Tree{
		0: {{}, {Nodes: []api.Node{{}}}, laid(a(Block)), program(e), blocks(49), empties(4097), {Nodes: []api.Node{{Kind: Program, Kids: []int{1}}}}, {Nodes: []api.Node{{Kind: Program, Kids: []int{-1, 1 << 50}}, {Kind: Empty}}}},
		1: {program()}, 2: {program(a(Empty)), empties(4096)}, 3: {program(a(Expr, e)), program(a(Empty), a(Block, a(Empty)), a(Empty)), program(a(While, e, a(Block)))},
		4: {program(a(Block, a(Expr, e)), a(Empty)), program(a(Empty), a(Let, named(Decl, "x", e))), program(a(Expr, named(Binary, "+", e, e)))},
		5: {program(a(Expr, named(Binary, "+", a(Array, e), e))), program(a(Expr, named(Binary, "+", e, a(Array, e)))), program(a(Block, a(Block, a(Block, a(Empty)), a(Block))))},
		// The nodes inside are counted from the root on, not those of the greatest kid alone.
		6:  {program(a(Block, a(Empty), a(Block, a(Block, a(Expr, e)))), a(Block))},
		48: {blocks(48), program(a(Empty), part(blocks(48), 1), part(blocks(30), 1))},
	} {
		for i, tree := range list {
			if Nest(tree) != want {
				t.Errorf("tree %d of the nest %d: %d", i, want, Nest(tree))
			}
		}
	}
	for _, tree := range Trees(5, 1000) {
		if Nest(tree) != referenceNest(tree, 0) {
			t.Fatalf("Nest(%s) = %d", shown(tree), Nest(tree))
		}
	}
}

func TestP6_1_Kids(t *testing.T) {
	bad := api.Tree{Nodes: []api.Node{{Kind: 77, Kids: []int{5, -1, 0, 0, 1 << 60}}, {}, {Kids: []int{2}}}}
	for n, want := range map[int][]int{0: {5, -1, 0, 0, 1 << 60}, 1: nil, 2: {2}, 3: nil, -1: nil, 1 << 62: nil, -1 << 62: nil} {
		if got := Kids(bad, n); !slices.Equal(got, want) {
			t.Errorf("Kids(%d) = %v", n, got)
		}
	}
	for _, tree := range Trees(6, 100) {
		for n, node := range tree.Nodes {
			if got := Kids(tree, n); !slices.Equal(got, node.Kids) {
				t.Errorf("Kids(%s, %d) = %v", shown(tree), n, got)
			}
		}
	}
	if Kids(api.Tree{}, 0) != nil {
		t.Error("Kids of no tree")
	}
}

func TestP6_1_Walk(t *testing.T) {
	for _, tree := range append(Trees(7, 300), program(), empties(4096), blocks(48)) {
		walk := Walk(tree)
		// An iterator yields the same each time, however far the loop before it went.
		for _, end := range []int{len(tree.Nodes), 0, 1, len(tree.Nodes) / 2, len(tree.Nodes)} {
			list := []int{}
			for n := range walk {
				if list = append(list, n); n == end {
					break
				}
			}
			if len(list) != min(end+1, len(tree.Nodes)) || list[0] != 0 || list[len(list)-1] != len(list)-1 {
				t.Fatalf("Walk(%s) yields %v", shown(tree), list)
			}
			for i, n := range list {
				if i != n {
					t.Fatalf("Walk(%s) yields %v", shown(tree), list)
				}
			}
		}
	}
	for _, tree := range []api.Tree{{}, {Nodes: []api.Node{{}}}, program(a(Null)), laid(a(Block)), blocks(49), empties(4097), program(id("if")), program(a(Block, a(Expr)))} {
		for n := range Walk(tree) {
			t.Errorf("Walk(%s) yields %d", shown(tree), n)
		}
	}
}

// checkPrint holds what is printed of a good tree against a text.
func checkPrint(t *testing.T, tree api.Tree, want string) {
	t.Helper()
	u, errno := Print(tree)
	if errno != api.OK || !text.Same(u, text.Ascii(want)) {
		s, _ := text.Plain(u)
		t.Errorf("Print(%s) = %q, %d; want %q", shown(tree), s, errno, want)
	}
}

func TestP6_2_PrintStatements(t *testing.T) {
	x, e, block, none, empty := id("x"), a(This), a(Block), a(Nothing), a(Empty)
	decl, sum, p, q := named(Decl, "d"), named(Binary, "+", number(1), id("a")), named(Param, "p"), named(Param, "q")
	short := a(If, e, empty)
	for want, s := range map[string]sub{
		"": a(Program), "; ;": a(Program, empty, empty), ";": empty, "( this ) ;": a(Expr, e), "( 1 + a ) ;": a(Expr, sum),
		"{ }": block, "{ ; { } ; }": a(Block, empty, block, empty),
		"let d ;": a(Let, decl), "const d ;": a(Const, decl), "let d , x = ( this ) , d ;": a(Let, decl, named(Decl, "x", e), decl), "const d = ( 1 + a ) , d ;": a(Const, named(Decl, "d", sum), decl),
		"let d = ( [ ] ) ;": named(Decl, "d", a(Array)),
		"if ( this ) ;":     short, "if ( 1 + a ) { } else ( this ) ;": a(If, sum, block, a(Expr, e)), "if ( x ) { if ( this ) ; } else if ( this ) ;": a(If, x, a(Block, short), short),
		"if ( x ) if ( this ) ; else ;": a(If, x, a(If, e, empty, empty)), "while ( x ) while ( 1 + a ) ;": a(While, x, a(While, sum, empty)),
		"for ( ; ; ) ;": a(For, none, none, none, empty), "for ( let d , d ; ( this ) ; ( 1 + a ) ) { }": a(For, a(Let, decl, decl), e, sum, block),
		"for ( const d = ( x ) ; ; ( x ) ) ;": a(For, a(Const, named(Decl, "d", x)), none, x, empty), "for ( ( 1 + a ) ; ( this ) ; ) ;": a(For, sum, e, none, empty), "for ( ( x ) ; ; ) for ( ; ( 1 ) ; ) ;": a(For, x, none, none, a(For, none, number(1), none, empty)),
		"break ;": a(Break), "break l ;": named(Break, "l"), "continue ;": a(Continue), "continue l ;": named(Continue, "l"),
		"return ;": a(Return), "return ( this ) ;": a(Return, e), "return ( 1 + a ) ;": a(Return, sum), "throw ( x ) ;": a(Throw, x), "throw ( 1 + a ) ;": a(Throw, sum),
		"try { } catch { }": a(Try, block, a(Catch, block), none), "try { } finally { }": a(Try, block, none, block), "try { ; } catch ( e ) { { } } finally { ; ; }": a(Try, a(Block, empty), named(Catch, "e", a(Block, block)), a(Block, empty, empty)),
		"l : ;": named(Label, "l", empty), "l : m : break l ;": named(Label, "l", named(Label, "m", named(Break, "l"))),
		"function f ( ) { }": named(Func, "f", block), "function f ( p ) { ; }": named(Func, "f", p, a(Block, empty)), "function f ( p , q , p ) { function g ( ) { } }": named(Func, "f", p, q, p, a(Block, named(Func, "g", block))),
	} {
		checkPrint(t, of(s), want)
	}
	checkPrint(t, program(a(Let, decl), a(Expr, x), short, empty), "let d ; ( x ) ; if ( this ) ; ;")
}

func TestP6_2_PrintExpressions(t *testing.T) {
	x, e, block, one := id("x"), a(This), a(Block), number(1)
	p, q, sum := named(Param, "p"), named(Param, "q"), named(Binary, "+", id("a"), one)
	for want, s := range map[string]sub{
		"0": number(0), "9007199254740991": number(api.MaxSafe), "0n": bigInt(), "7n": bigInt(7), "4294967296n": bigInt(0, 1), "340282366920938463463374607431768211455n": bigInt(1<<32-1, 1<<32-1, 1<<32-1, 1<<32-1),
		`""`: str(), `"a b"`: str('a', ' ', 'b'), "x": x, "$_9": id("$_9"), "true": a(True), "false": a(False), "null": a(Null), "this": e,
		"[ ]": a(Array), "[ 1 ]": a(Array, one), "[ x , ( a + 1 ) , ( [ ] ) , 0n ]": a(Array, x, sum, a(Array), bigInt()),
		"{ }": a(Object), `{ "a" : 1 }`: a(Object, prop("a", one)), `{ "" : ( a + 1 ) , "a b" : ( { } ) , "if" : x }`: a(Object, prop("", sum), prop("a b", a(Object)), prop("if", x)),
		`{ "\u0022\u005c~ " : "~" }`: a(Object, prop("\"\\~ ", str('~'))),
		"function ( ) { }":           a(Function, block), "function f ( p , q ) { ; }": named(Function, "f", p, q, a(Block, a(Empty))), "function ( p ) { }": a(Function, p, block),
		"( ) => { }": a(Arrow, block), "( p , q ) => { }": a(Arrow, p, q, block), "( ) => ( x )": a(Arrow, x), "( p ) => ( ( ) => ( a + 1 ) )": a(Arrow, p, a(Arrow, sum)), "( p ) => ( { } )": a(Arrow, p, a(Object)),
		"- 1": named(Unary, "-", one), "- ( - 1 )": named(Unary, "-", named(Unary, "-", one)), "typeof x": named(Unary, "typeof", x), "void ( a + 1 )": named(Unary, "void", sum), "! ( [ ] )": named(Unary, "!", a(Array)),
		"++ x": named(Pre, "++", x), "-- ( a + 1 ) . b": named(Pre, "--", named(Dot, "b", sum)), "x [ 1 ] --": named(Post, "--", a(Index, x, one)), "( x . y ) . z ++": named(Post, "++", named(Dot, "z", named(Dot, "y", x))),
		"1 + 1": named(Binary, "+", one, one), "( a + 1 ) in ( a + 1 )": named(Binary, "in", sum, sum), "x >>> 1n": named(Binary, ">>>", x, bigInt(1)), "x && ( x || x )": named(Logic, "&&", x, named(Logic, "||", x, x)), "( ++ x ) ?? null": named(Logic, "??", named(Pre, "++", x), a(Null)),
		"x ? 1 : this": a(Cond, x, one, e), "( a + 1 ) ? ( a + 1 ) : ( a + 1 )": a(Cond, sum, sum, sum), "x = 1": named(Assign, "=", x, one), "x . y >>>= ( a + 1 )": named(Assign, ">>>=", named(Dot, "y", x), sum), "( a + 1 ) [ ( a + 1 ) ] = ( x = 1 )": named(Assign, "=", a(Index, sum, sum), named(Assign, "=", x, one)),
		"x ( )": a(Call, x), "x ( 1 , ( a + 1 ) , x )": a(Call, x, one, sum, x), "( x . y ) ( )": a(Call, named(Dot, "y", x)), "( function ( ) { } ) ( ( ( ) => ( x ) ) )": a(Call, a(Function, block), a(Arrow, x)), "( x ( ) ) ( )": a(Call, a(Call, x)),
		"new x ( )": a(New, x), "new ( x . y ) ( 1 , ( a + 1 ) )": a(New, named(Dot, "y", x), one, sum), "new ( new x ( 1 ) ) ( )": a(New, a(New, x, one)),
		"1 . if": named(Dot, "if", one), "( x ( ) ) . y": named(Dot, "y", a(Call, x)), "x [ x ]": a(Index, x, x), `"s" [ ( x = 1 ) ]`: a(Index, str('s'), named(Assign, "=", x, one)),
	} {
		checkPrint(t, of(s), "( "+want+" ) ;")
		checkPrint(t, program(a(Return, s)), "return ( "+want+" ) ;")
	}
}

// Each expression as a kid of each other one: the two differ by parentheses.
func TestP6_2_PrintParentheses(t *testing.T) {
	bare := []int{Number, Big, String, Name, True, False, Null, This}
	for _, inner := range expressionKinds {
		s := common(inner)
		alone := printed(t, of(s))
		alone = strings.TrimSuffix(strings.TrimPrefix(alone, "( "), " ) ;")
		within := "( " + alone + " )"
		if slices.Contains(bare, inner) {
			within = alone
		}
		e := a(Null)
		for want, outer := range map[string]sub{
			"- I": named(Unary, "-", s), "I + I": named(Binary, "+", s, s), "I && I": named(Logic, "&&", s, s), "I ? I : I": a(Cond, s, s, s), "x = I": named(Assign, "=", id("x"), s),
			"I ( I , I )": a(Call, s, s, s), "new I ( I , I )": a(New, s, s, s), "I . x": named(Dot, "x", s), "I [ I ]": a(Index, s, s), "[ I , I ]": a(Array, s, s), `{ "a" : I }`: a(Object, prop("a", s)),
			"( ) => ( B )": a(Arrow, s), "I . x ++": named(Post, "++", named(Dot, "x", s)), "-- I [ I ]": named(Pre, "--", a(Index, s, s)), "I [ null ] = I": named(Assign, "=", a(Index, s, e), s),
		} {
			want = strings.NewReplacer("I", within, "B", alone).Replace(want)
			checkPrint(t, of(outer), "( "+want+" ) ;")
		}
		for want, outer := range map[string]sub{
			"( B ) ;": a(Expr, s), "let x = ( B ) ;": a(Let, named(Decl, "x", s)), "if ( B ) ;": a(If, s, a(Empty)), "while ( B ) ;": a(While, s, a(Empty)), "return ( B ) ;": a(Return, s), "throw ( B ) ;": a(Throw, s),
			"for ( ( B ) ; ( B ) ; ( B ) ) ;": a(For, s, s, s, a(Empty)), "for ( let x = ( B ) ; ; ) ;": a(For, a(Let, named(Decl, "x", s)), a(Nothing), a(Nothing), a(Empty)),
		} {
			checkPrint(t, of(outer), strings.ReplaceAll(want, "B", alone))
		}
		if slices.Contains(targetKinds, inner) {
			checkPrint(t, of(named(Pre, "++", s)), "( ++ "+alone+" ) ;")
			checkPrint(t, of(named(Post, "--", s)), "( "+alone+" -- ) ;")
			checkPrint(t, of(named(Assign, "+=", s, s)), "( "+alone+" += "+within+" ) ;")
		}
	}
}

// printed is what Print says of a good tree.
func printed(t *testing.T, tree api.Tree) string {
	t.Helper()
	u, errno := Print(tree)
	s, ok := text.Plain(u)
	if errno != api.OK || !ok {
		t.Fatalf("Print(%s) = %q, %d", shown(tree), s, errno)
	}
	return s
}

func TestP6_2_PrintStrings(t *testing.T) {
	for n := range 1 << 16 {
		unit := uint16(n)
		want := quotedUnits([]uint16{unit})
		if s := printed(t, of(str(unit))); s != "( "+want+" ) ;" {
			t.Fatalf("the unit %x is printed %s", unit, s)
		}
		if n < 256 || n%257 == 0 {
			key := sub{api.Node{Kind: Prop, Str: []uint16{'a', unit, unit}}, []sub{a(Null)}}
			checkPrint(t, of(key), "( { "+quotedUnits([]uint16{'a', unit, unit})+" : null } ) ;")
		}
	}
	checkPrint(t, of(str(0, 9, 10, 0x1F, ' ', '"', '\'', '\\', '~', 0x7F, 0x80, 0xE9, 0x2028, 0xD83D, 0xDE00, 0xFFFF)), `( "\u0000\u0009\u000a\u001f \u0022'\u005c~\u007f\u0080\u00e9\u2028\ud83d\ude00\uffff" ) ;`)
	checkPrint(t, of(a(Let, named(Decl, "x", str('"')))), `let x = ( "\u0022" ) ;`)
}

func TestP6_2_PrintRandom(t *testing.T) {
	short := 0
	for _, tree := range Trees(8, 5000) {
		want := printedBy(tree)
		if len(want) > most {
			continue
		}
		short++
		if got := printed(t, tree); got != want {
			t.Fatalf("Print(%s) = %q; want %q", shown(tree), got, want)
		}
	}
	if short < 4000 {
		t.Errorf("only %d trees are short", short)
	}
	for _, s := range goodNodes() {
		checkPrint(t, of(s), printedBy(of(s)))
	}
}

func checkPrintError(t *testing.T, tree api.Tree, want api.Errno) {
	t.Helper()
	if u, errno := Print(tree); len(u) > 0 || errno != want {
		t.Errorf("Print(%s) = %d units, %d; want %d", shown(tree), len(u), errno, want)
	}
}

func TestP6_2_PrintErrors(t *testing.T) {
	for _, tree := range []api.Tree{{}, {Nodes: []api.Node{{}}}, program(a(Null)), laid(a(Block)), blocks(49), empties(4097), program(a(Expr, id("if"))), program(a(Expr, id(strings.Repeat("a", most+1)))), program(a(Expr, str(make([]uint16, most+1)...))),
		{Nodes: []api.Node{{Kind: Program, Kids: []int{1}}}}, program(a(If, a(Null), a(If, a(Null), a(Empty)), a(Empty)))} {
		checkPrintError(t, tree, api.ErrForm)
	}
	r := maker{rand.New(rand.NewSource(9))}
	for _, tree := range Trees(10, 500) {
		if tree = mutated(r, tree); !referenceMay(tree) {
			checkPrintError(t, tree, api.ErrForm)
		}
	}
}

func TestP6_2_PrintLong(t *testing.T) {
	checkPrintError(t, empties(4096), api.ErrLong)
	checkPrintError(t, empties(1+2049), api.ErrLong)
	checkPrint(t, empties(1+2048), strings.TrimSuffix(strings.Repeat("; ", 2048), " "))
	long := func(n int) sub { return a(Expr, id(strings.Repeat("a", n))) }
	checkPrint(t, program(long(most-6)), "( "+strings.Repeat("a", most-6)+" ) ;")
	checkPrintError(t, program(long(most-5)), api.ErrLong)
	checkPrintError(t, program(long(most)), api.ErrLong)
	checkPrintError(t, of(str(make([]uint16, most)...)), api.ErrLong)
	checkPrintError(t, of(prop(strings.Repeat("\"", most), a(Null))), api.ErrLong)
	checkPrint(t, of(str(make([]uint16, 681)...)), `( "`+strings.Repeat(`\u0000`, 681)+`" ) ;`)
	checkPrint(t, of(str(append(make([]uint16, 681), 'a', 'a')...)), `( "`+strings.Repeat(`\u0000`, 681)+`aa" ) ;`)
	checkPrintError(t, of(str(append(make([]uint16, 681), 'a', 'a', 'a')...)), api.ErrLong)
	all := api.Tree{Nodes: []api.Node{{Kind: Program}}}
	same := make([]uint16, most)
	for n := 1; n+1 < api.MaxNodes; n += 2 {
		all.Nodes[0].Kids = append(all.Nodes[0].Kids, n)
		all.Nodes = append(all.Nodes, api.Node{Kind: Expr, Kids: []int{n + 1}}, api.Node{Kind: String, Str: same})
	}
	checkPrintError(t, all, api.ErrLong)
}

// A tree is printed up to each of its tokens, so that it gets too long there.
func TestP6_2_PrintLongAnywhere(t *testing.T) {
	for _, s := range goodNodes() {
		tree := of(s)
		want := printedBy(tree)
		for room := range len(want) + 3 {
			// In front stand a name in parentheses, a semicolon and a blank.
			before := sub{api.Node{Kind: Expr}, []sub{id(strings.Repeat("a", most-7-room))}}
			longer := program(append([]sub{before}, part(tree, 0).kids...)...)
			switch {
			case want == "":
			case room < len(want):
				checkPrintError(t, longer, api.ErrLong)
			default:
				checkPrint(t, longer, "( "+strings.Repeat("a", most-7-room)+" ) ; "+want)
			}
		}
	}
}

func fill[T any](l []T, with T) {
	l = l[:cap(l)]
	for i := range l {
		l[i] = with
	}
}

// roomy is a copy of a tree, each list of which has room that is filled.
func roomy(t api.Tree) api.Tree {
	nodes := append(copied(t).Nodes, api.Node{Kind: 77}, api.Node{Kind: 77})
	for i := range nodes {
		nodes[i].Str = append(nodes[i].Str, 7, 7)[:len(nodes[i].Str)]
		nodes[i].B.Mag = append(nodes[i].B.Mag, 7, 7)[:len(nodes[i].B.Mag)]
		nodes[i].Kids = append(nodes[i].Kids, 7, 7)[:len(nodes[i].Kids)]
	}
	return api.Tree{Nodes: nodes[:len(t.Nodes)]}
}

// whole is a tree with all that its lists have room for.
func whole(t api.Tree) api.Tree {
	t = api.Tree{Nodes: slices.Clone(t.Nodes[:cap(t.Nodes)])}
	for i := range t.Nodes {
		node := &t.Nodes[i]
		node.Str, node.B.Mag, node.Kids = node.Str[:cap(node.Str)], node.B.Mag[:cap(node.B.Mag)], node.Kids[:cap(node.Kids)]
	}
	return copied(t)
}

func TestP6_3_ArgumentsStay(t *testing.T) {
	r := maker{rand.New(rand.NewSource(11))}
	for _, tree := range Trees(12, 300) {
		for _, one := range []api.Tree{tree, mutated(r, tree)} {
			part := roomy(one)
			was := whole(part)
			u, errno := Print(part)
			v, other := Print(copied(one))
			if !text.Same(u, v) || errno != other || May(part) != May(one) || Nest(part) != Nest(one) || !Same(part, one) || !Same(one, part) {
				t.Fatalf("what lies beyond the length of a list is read:%s", shown(one))
			}
			for n := range Walk(part) {
				Kids(part, n)
			}
			if Kids(part, len(one.Nodes)) != nil || !Same(whole(part), was) {
				t.Fatalf("an argument is changed, or read beyond its length:%s", shown(one))
			}
		}
	}
}

func TestP6_3_ArgumentsAreNotRetained(t *testing.T) {
	tree := program(a(Expr, named(Binary, "+", number(1), id("a"))), a(Empty))
	walk, u, kids := Walk(tree), ascii(t, tree), Kids(tree, 2)
	count := len(tree.Nodes)
	fill(tree.Nodes[2].Kids, 99)
	fill(tree.Nodes, api.Node{Kind: 77})
	tree.Nodes = tree.Nodes[:1]
	list := slices.Collect(walk)
	if len(list) != count || !slices.Equal(kids, []int{3, 4}) || !text.Same(u, text.Ascii("( 1 + a ) ; ;")) {
		t.Errorf("a result hangs on its argument: %v, %v", list, kids)
	}
	// What the body of a loop does to the tree changes nothing that is yielded.
	tree, list = program(a(Empty), a(Empty), a(Block)), nil
	for n := range Walk(tree) {
		fill(tree.Nodes, api.Node{})
		list = append(list, n)
	}
	if !slices.Equal(list, []int{0, 1, 2, 3}) {
		t.Errorf("Walk yields %v", list)
	}
	// What is not good when Walk is called does not become so later.
	tree = program(a(Null))
	walk = Walk(tree)
	tree.Nodes[1].Kind = Empty
	for n := range walk {
		t.Errorf("Walk yields %d", n)
	}
}

func ascii(t *testing.T, tree api.Tree) []uint16 { return text.Ascii(printed(t, tree)) }

func TestP6_3_ResultsAreNewMemory(t *testing.T) {
	for _, tree := range Trees(13, 100) {
		was := copied(tree)
		u, first := Print(tree)
		v, second := Print(tree)
		kept := slices.Clone(v)
		fill(u, 0xFFFF)
		if first != second || !text.Same(v, kept) {
			t.Fatalf("two results of Print share memory:%s", shown(tree))
		}
		for n := range tree.Nodes {
			one, other := Kids(tree, n), Kids(tree, n)
			fill(one, 99)
			_ = append(one, 99)
			if !slices.Equal(other, was.Nodes[n].Kids) || !Same(tree, was) {
				t.Fatalf("Kids(%s, %d) shares memory", shown(was), n)
			}
		}
		w, _ := Print(tree)
		if !Same(tree, was) || !text.Same(w, kept) {
			t.Fatalf("a result shares memory with the tree:%s", shown(was))
		}
	}
	// Kids that have room behind them, which is not given away.
	tree := roomy(program(a(Empty), a(Empty)))
	_ = append(Kids(tree, 0), 99)
	if whole(tree).Nodes[0].Kids[2] != 7 {
		t.Error("Kids gives away the room of an argument")
	}
}

// Sources follow the grammar of chapter 7, in most of its ways.
func Sources() []string {
	return []string{
		"", ";", "a", "a\n++b", "a+++b", "let x = 1, y; const z = x", "if (a) b; else c", "if (a) if (b) c; else d", "if (a) { if (b) c } else d", "while (a) b", "for (;;) ;", "for (let i = 0, n; i < n; i++) { f(i) }",
		"for (const x = 1;;) break", "for (a in b; c; d) ;", "l: m: for (;;) { continue l; break m }", "function f(a, b) { return a + b } f(1, 2)", "return\n1", "throw 1", "try { } catch { }", "try { a } catch (e) { b } finally { c }", "try { } finally { }",
		"x = y = z", "x += y; x >>>= y", "a.b.c = d[e][f]", "(a) = 1; (a.b) += 2; ((a[b]))++", "--a.if; - -a; !~+typeof void a", "a ?? b; a || b && c | d ^ e & f == g < h << i + j * k", "a - b - c; a * (b + c) % d", "(a ?? b) || c", "a ? b : c ? d : e", "(a ? b : c) ? d : e",
		"x => x; () => {}; (a, b) => ({}); a => b => c; (a) => { return }", "(x => x)(1); f(x => x, y)", "new a; new a(); new a.b(c); new a(b).c; new new a(1)(2); new new a(1).b(2); new (a())(b); new (a.b()).c", "a(b)(c)[d].e(f, g)", "[]; [1, [2]]; ({})",
		"({a, \"b c\": 1, 2: 3, if: 4, d: {e}})", "(function () {}); (function f(a) { function g() {} })()", "'a\\n\"\\\\' + \"é\\u0000\"; 10n * 1n", "0; 9007199254740991; 0n; 340282366920938463463374607431768211456n", "null.x; true; false; this.y; 1 .z",
		"a\n(b)", "x = function () {}\n\ny", "{ let a; const b = 1; function f() {} { } }", "a: b: { break a }", "if (a) ; else if (b) ; else ;", "a !== b === c != d", "a >>> b >> c <= d >= e",
	}
}

func TestP6_4_PrintedAndReadAgain(t *testing.T) {
	many := Trees(14, 4000)
	for _, s := range goodNodes() {
		many = append(many, of(s))
	}
	for _, s := range Sources() {
		tree, ok := readTree(units(s))
		if !ok || !May(tree) {
			t.Errorf("%q is not read", s)
			continue
		}
		many = append(many, tree)
	}
	short := 0
	for _, tree := range many {
		u, errno := Print(tree)
		if errno == api.ErrLong {
			continue
		}
		short++
		if again, ok := readTree(u); !ok || !Same(again, tree) {
			s, _ := text.Plain(u)
			t.Fatalf("%q is read as%s; want%s", s, shown(again), shown(tree))
		}
	}
	if short < 3500 {
		t.Errorf("only %d trees are short", short)
	}
}

// units has the units of a text.
func units(s string) []uint16 {
	u, _, _ := text.Units([]byte(s))
	return u
}
