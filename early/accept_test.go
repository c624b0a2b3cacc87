package early_test

import (
	"math/rand"
	"slices"
	"strings"
	"testing"

	"rendezvous/api"
	"rendezvous/early"
	"rendezvous/parse"
	"rendezvous/text"
	"rendezvous/tree"
)

func checkRefused(t *testing.T, s string, at int, errno api.Errno) {
	t.Helper()
	if one, place, e := early.Accept([]byte(s)); place != at || e != errno || one.Nodes != nil {
		t.Errorf("Accept(%.60q): %d nodes, error %d at %d; want error %d at %d", s, len(one.Nodes), e, place, errno, at)
	}
}

// checkAccepted holds what Accept answers against the tree of the source.
func checkAccepted(t *testing.T, s string) {
	t.Helper()
	u, _, _ := text.Units([]byte(s))
	want, _, errno := parse.Parse(u)
	if one, at, e := early.Accept([]byte(s)); errno != api.OK || e != api.OK || at != 0 || !tree.Same(one, want) {
		t.Errorf("Accept(%.60q): %d nodes, error %d at %d; want %d nodes", s, len(one.Nodes), e, at, len(want.Nodes))
	}
}

func TestP8_3_Accepted(t *testing.T) {
	for _, s := range []string{"", " ", ";", "let a", "let a; { let a }", "a: while (1) { break a; }", "() => { return 1 }", "'é'", "let a = '\U0001F600' + \"\\ud800\" // é\u0000", "function f(a) { return a + 1n } f({ b: [1], 'c': this })",
		strings.Repeat(";", api.MaxNodes-1), strings.Repeat("{", 47) + strings.Repeat("}", 47), strings.Repeat(" ", api.MaxText), "'" + strings.Repeat("é", (api.MaxText-2)/2) + "'", "a" + strings.Repeat(" ", api.MaxText-1)} {
		checkAccepted(t, s)
	}
}

func TestP8_3_Errors(t *testing.T) {
	// A byte, as in text.
	checkRefused(t, "\xff", 0, api.ErrForm)
	checkRefused(t, "a\xff", 1, api.ErrForm)
	checkRefused(t, "'é\U0001F600' \xed\xa0\x80", 9, api.ErrForm)
	checkRefused(t, "let a = 'é", 8, api.ErrSyntax)
	checkRefused(t, "let a = '\xc3'", 9, api.ErrForm)
	checkRefused(t, strings.Repeat(" ", api.MaxText+1), 0, api.ErrLong)
	checkRefused(t, strings.Repeat("é", api.MaxText/2+1), 0, api.ErrLong)
	checkRefused(t, strings.Repeat("\xff", api.MaxText+1), 0, api.ErrLong)
	// A unit, as in parse.
	checkRefused(t, "é é", 0, api.ErrSubset)
	checkRefused(t, "a é", 2, api.ErrSubset)
	checkRefused(t, "'é' b", 4, api.ErrSyntax)
	checkRefused(t, "'\U0001F600é' b", 6, api.ErrSyntax)
	checkRefused(t, "'\U0001F600'; var x", 6, api.ErrSubset)
	checkRefused(t, "x = /a/", 4, api.ErrSubset)
	checkRefused(t, "1 = 2", 2, api.ErrSyntax)
	checkRefused(t, "a ?? b || c", 7, api.ErrSyntax)
	checkRefused(t, "let", 3, api.ErrSyntax)
	checkRefused(t, "1.5", 0, api.ErrSubset)
	checkRefused(t, strings.Repeat(";", api.MaxNodes), 0, api.ErrLong)
	checkRefused(t, strings.Repeat("!", api.MaxNest)+"a", 0, api.ErrDepth)
	// A node, as in Check.
	checkRefused(t, "let a, a", 0, api.ErrSyntax)
	checkRefused(t, "break a", 1, api.ErrSyntax)
	checkRefused(t, "(x) => { let x; }", 4, api.ErrSyntax)
	checkRefused(t, "return\n1", 1, api.ErrSyntax)
	checkRefused(t, "'\U0001F600'; const é", 12, api.ErrSubset)
	checkRefused(t, "'\U0001F600'; const a", 4, api.ErrSyntax)
	checkRefused(t, ";{ break; continue }", 3, api.ErrSyntax)
}

// Errors of the bytes come first, then those of the grammar, wherever they stand.
func TestP8_3_TheOrderOfErrors(t *testing.T) {
	checkRefused(t, "break; ) \xff", 9, api.ErrForm)
	checkRefused(t, ") 'a\n \xc3\xa9 \xc3", 9, api.ErrForm)
	checkRefused(t, "let a, a; )", 10, api.ErrSyntax)
	checkRefused(t, "return; break; 1.5", 15, api.ErrSubset)
	checkRefused(t, "break; class", 7, api.ErrSubset)
	checkRefused(t, "let a, a; 'é", 10, api.ErrSyntax)
	checkRefused(t, "break; "+strings.Repeat("!", api.MaxNest)+"a", 0, api.ErrDepth)
	checkRefused(t, "break"+strings.Repeat(";", api.MaxNodes-1), 0, api.ErrLong)
	checkRefused(t, "break; \xff"+strings.Repeat(" ", api.MaxText), 0, api.ErrLong)
}

// Accept is the three calls one after another.
func checkSteps(t *testing.T, source []byte) api.Errno {
	t.Helper()
	u, at, errno := text.Units(source)
	want := api.Tree{}
	if errno == api.OK {
		want, at, errno = parse.Parse(u)
	}
	if errno == api.OK {
		at, errno = early.Check(want)
	}
	if errno != api.OK {
		want = api.Tree{}
	}
	if one, place, e := early.Accept(source); place != at || e != errno || !tree.Same(one, want) {
		t.Fatalf("Accept(%q): %d nodes, error %d at %d; want %d nodes, error %d at %d", source, len(one.Nodes), e, place, len(want.Nodes), errno, at)
	}
	return errno
}

func TestP8_3_ManySources(t *testing.T) {
	r, counts := rand.New(rand.NewSource(3)), map[api.Errno]int{}
	others := "a()`;`{\\}'1 =\n\xff\xc3"
	for _, one := range randomTrees(4, 3000) {
		source := []byte(one.source)
		counts[checkSteps(t, source)]++
		for range r.Intn(3) {
			source[r.Intn(len(source))] = others[r.Intn(len(others))]
		}
		counts[checkSteps(t, source)]++
	}
	for _, errno := range []api.Errno{api.OK, api.ErrForm, api.ErrSyntax, api.ErrSubset} {
		if counts[errno] < 100 {
			t.Errorf("only %d sources have the error %d", counts[errno], errno)
		}
	}
}

func TestP8_4_AcceptLeavesItsArgument(t *testing.T) {
	for _, s := range []string{"let a = 'one', b = 12n; a: while (1) break a", "let a, a", "a b", "a\xff", "", "'\U0001F600'", "'a", strings.Repeat(";", api.MaxText)} {
		all := []byte(s + "/b + 'c' => 1")
		was := slices.Clone(all)
		one, at, errno := early.Accept(all[:len(s)])
		other, place, e := early.Accept([]byte(s))
		if !slices.Equal(all, was) || !tree.Same(one, other) || at != place || errno != e {
			t.Errorf("Accept(%.40q) changes its argument, or reads beyond it", s)
		}
		kept := copied(one)
		fill(all, 0xFF)
		if !tree.Same(one, kept) {
			t.Errorf("Accept(%.40q) retains its argument", s)
		}
	}
}

func TestP8_4_TreesAreNewMemory(t *testing.T) {
	source := []byte("let a = 'one', b = 18446744073709551616n; l: for (;;) { f(x => { return x }, {a, 'b c': 12n}); break l }")
	first, _, errno := early.Accept(source)
	second, _, _ := early.Accept(source)
	was := copied(second)
	if errno != api.OK || !tree.Same(first, was) {
		t.Fatalf("Accept(%q): error %d", source, errno)
	}
	for i := range first.Nodes {
		kept, node := copied(first), first.Nodes[i]
		fill(node.Str[:cap(node.Str)], 0xFFFF)
		fill(node.B.Mag[:cap(node.B.Mag)], 0xFFFFFFFF)
		fill(node.Kids[:cap(node.Kids)], -1)
		kept.Nodes[i] = node
		if !tree.Same(first, kept) {
			t.Errorf("what is written into the lists of node %d is in others", i)
		}
	}
	fill(first.Nodes[:cap(first.Nodes)], api.Node{Kind: 77})
	third, _, _ := early.Accept(source)
	if !tree.Same(second, was) || !tree.Same(third, was) {
		t.Error("what is written into a result is in another one")
	}
}

// checkPrinted holds a tree against what is printed of it and parsed again, and
// tells whether that is short enough.
func checkPrinted(t *testing.T, one read) bool {
	t.Helper()
	u, errno := tree.Print(one.tree)
	if errno == api.ErrLong {
		return false
	}
	again, _, other := parse.Parse(u)
	if errno != api.OK || other != api.OK || scopes(again) != scopes(one.tree) || checked(t, again) != checked(t, one.tree) {
		s, _ := text.Plain(u)
		t.Fatalf("%q is printed as %q, where other scopes hold", one.source, s)
	}
	// What is accepted is accepted again, and what is not is refused at the same node.
	source, _ := text.Bytes(u)
	n, wrong := early.Check(one.tree)
	accepted, at, refused := early.Accept(source)
	if at != n || refused != wrong || refused == api.OK && !tree.Same(accepted, one.tree) {
		t.Fatalf("Accept(%q) = error %d at %d; want error %d at %d", source, refused, at, wrong, n)
	}
	return true
}

func TestP8_5_Printed(t *testing.T) {
	short := 0
	for _, one := range many() {
		if checkPrinted(t, one) {
			short++
		}
	}
	if short < 15000 {
		t.Errorf("only %d trees are short", short)
	}
}
