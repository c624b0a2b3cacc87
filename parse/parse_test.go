package parse_test

import (
	"slices"
	"strings"
	"testing"

	"rendezvous/api"
	"rendezvous/parse"
	"rendezvous/tree"
)

// Errors of lex come first, wherever they stand, and keep their places.
func TestP7_1_ErrorsOfLex(t *testing.T) {
	checkErrors(t, api.ErrSyntax, "a @'b", ") ) @'b", "} @/*", "class { @# }", "x = /@'/", "var @007", "( @\"\n\"")
	checkErrors(t, api.ErrSubset, ") @1.5", "a b c @`", "a@?.b", "@... a", "( ( @é", "1 = @0x1", "let @** 1", "a b @\\u0061")
	checkError(t, source("@"), 0, api.ErrSyntax)
	checkError(t, source(") ] @"), 4, api.ErrSyntax)
	checkError(t, []uint16{')', 0xD800}, 1, api.ErrSubset)
	for _, s := range []string{"a", ")", ") '", " ", "'"} {
		checkError(t, source(strings.Repeat(s, api.MaxText+1)), 0, api.ErrLong)
	}
	checkError(t, source(")"+strings.Repeat(" ", api.MaxText-1)), 0, api.ErrSyntax)
}

func TestP7_1_TooManyNodes(t *testing.T) {
	checkCount := func(s string, count int) {
		t.Helper()
		if got, at, errno := parse.Parse(source(s)); errno != api.OK || at != 0 || len(got.Nodes) != count || !tree.May(got) {
			t.Errorf("Parse(%.40q ..): %d nodes, error %d at %d; want %d nodes", s, len(got.Nodes), errno, at, count)
		}
	}
	checkCount("", 1)
	checkCount(strings.Repeat(";", api.MaxNodes-1), api.MaxNodes)
	checkCount(strings.Repeat("a;", api.MaxNodes/2-1)+";", api.MaxNodes)
	checkCount("({"+strings.Repeat("a,", 2045)+"a})", 4+2*2045+1)
	checkError(t, source(strings.Repeat(";", api.MaxNodes)), 0, api.ErrLong)
	checkError(t, source(strings.Repeat("a;", api.MaxNodes/2)), 0, api.ErrLong)
	checkError(t, source(strings.Repeat("b\n", api.MaxNodes/2)), 0, api.ErrLong)
	// A token that cannot follow comes first.
	checkError(t, source(strings.Repeat(";", api.MaxNodes-1)+")"), api.MaxNodes-1, api.ErrSyntax)
	// Then the nodes, and then the nest.
	deep := strings.Repeat("!", api.MaxNest-2) + "a;"
	checkError(t, source(deep+strings.Repeat(";", api.MaxNodes-api.MaxNest)), 0, api.ErrLong)
	checkError(t, source(deep+strings.Repeat(";", api.MaxNodes-api.MaxNest-1)), 0, api.ErrDepth)
	checkError(t, source(deep), 0, api.ErrDepth)
}

// nests are sources of nodes that are nested: so many times what begins, what
// is inside, and as often what ends. The nest is that of what is inside, with as
// many nodes more each time as the source says.
var nests = []struct {
	begin, inner, end string
	least, more       int
}{
	{"{", "", "}", 1, 1}, {"{", ";", "}", 2, 1}, {"a:", ";", "", 2, 1}, {"if(a)", ";", "", 2, 1}, {"if(a);else ", ";", "", 2, 1}, {"while(a)", ";", "", 2, 1}, {"for(;;)", ";", "", 2, 1},
	{"try{", ";", "}finally{}", 2, 2}, {"try{}catch{", ";", "}", 2, 3}, {"try{}finally{", ";", "}", 2, 2}, {"function f(){", ";", "}", 2, 2}, {"if(a){", ";", "}", 2, 2},
	{"!", "a", "", 3, 1}, {"- ", "a", "", 3, 1}, {"void ", "++a", "", 4, 1}, {"[", "a", "]", 3, 1}, {"f(", "a", ")", 3, 1}, {"a[", "b", "]", 3, 1}, {"new ", "a", "", 3, 1}, {"x=>", "x", "", 3, 1}, {"()=>{", ";", "}", 2, 3},
	{"a=", "b", "", 3, 1}, {"a?b:", "c", "", 3, 1}, {"a?", "b", ":c", 3, 1}, {"", "a", "+a", 3, 1}, {"", "a", "??b", 3, 1}, {"", "a", ".b", 3, 1}, {"", "a", "()", 3, 1}, {"", "a", "[b]", 3, 1}, {"x={a:", "b", "}", 3, 3},
	{"x=[function(){", ";", "}]", 2, 5}, {"(a,b)=>", "c", "", 3, 1},
}

func TestP7_1_TooGreatANest(t *testing.T) {
	for _, c := range nests {
		for count := range 60 {
			s := strings.Repeat(c.begin, count) + c.inner + strings.Repeat(c.end, count)
			nest := c.least + count*c.more
			got, at, errno := parse.Parse(source(s))
			switch {
			case nest > api.MaxNest:
				checkError(t, source(s), 0, api.ErrDepth)
			case errno != api.OK || at != 0 || tree.Nest(got) != nest:
				t.Errorf("Parse(%q): error %d at %d, nest %d; want nest %d", s, errno, at, tree.Nest(got), nest)
			}
		}
		// A token that cannot follow comes first.
		s := strings.Repeat(c.begin, 100) + c.inner + strings.Repeat(c.end, 100) + " )"
		checkError(t, source(s), len(s)-1, api.ErrSyntax)
	}
	// Parentheses make no nodes.
	for _, count := range []int{1, 47, 48, 1000, (api.MaxText - 1) / 2} {
		checkE(t, strings.Repeat("(", count)+"a"+strings.Repeat(")", count), "a")
	}
	checkErrors(t, api.ErrSyntax, strings.Repeat("(", 1000)+"a"+strings.Repeat(")", 1000)+"@=>b")
}

// All calls end, however deep what they read is.
func TestP7_1_Ends(t *testing.T) {
	for _, c := range nests {
		for _, s := range []string{c.begin, c.inner, c.end, c.begin + c.end, c.begin + c.inner, c.inner + c.end, "(" + c.begin, "[{a:" + c.begin} {
			if s == "" {
				continue
			}
			s = strings.Repeat(s, api.MaxText/len(s))
			if got, at, errno := parse.Parse(source(s)); at < 0 || at > len(s) || (errno == api.OK) != (len(got.Nodes) > 0) {
				t.Errorf("Parse(%.40q ..): %d nodes, error %d at %d", s, len(got.Nodes), errno, at)
			}
		}
	}
	for _, s := range []string{"(", "[", "{", "({a:", "((a,b)=>", "new ", "a?", "x=>", "- ++ ", "function f(", "for(", "((a,"} {
		s = strings.Repeat(s, api.MaxText/len(s))
		if _, at, errno := parse.Parse(source(s)); at == 0 || errno != api.ErrSyntax {
			t.Errorf("Parse(%.40q ..): error %d at %d", s, errno, at)
		}
	}
}

const varied = "let a = 'one', b = \"two\\u00e9\" + 18446744073709551616n; l: for (;;) { f(x => { return x }, {a, 'b c': 12n, 3: [a, b], if: 1}); break l }\ntry { a?b:c } catch (e) { throw new a(b) }"

func TestP7_2_ArgumentsStay(t *testing.T) {
	for _, s := range []string{varied, varied + " )", varied + " 'a", "", "a", "a b", "(a) ", "x =", "'" + strings.Repeat("a", 100) + "'", strings.Repeat(";", api.MaxText), strings.Repeat("a", api.MaxText+1)} {
		all := append(source(s), source("/b + 'c' => 1")...)
		was := slices.Clone(all)
		part := all[:len(source(s))]
		got, at, errno := parse.Parse(part)
		if !slices.Equal(all, was) {
			t.Fatalf("Parse(%.40q) changes its argument", s)
		}
		if other, place, e := parse.Parse(slices.Clip(slices.Clone(part))); !tree.Same(got, other) || at != place || errno != e {
			t.Errorf("Parse(%.40q) reads beyond the length of its argument", s)
		}
		kept := copied(got)
		fill(all, 0xFFFF)
		if !tree.Same(got, kept) {
			t.Errorf("Parse(%.40q) retains its argument", s)
		}
	}
}

func TestP7_2_ResultsAreNewMemory(t *testing.T) {
	u := source(varied)
	first, _, errno := parse.Parse(u)
	second, _, _ := parse.Parse(u)
	was := copied(second)
	if errno != api.OK || len(first.Nodes) != 48 || !tree.Same(first, was) {
		t.Fatalf("Parse(%q): error %d", varied, errno)
	}
	units, limbs, kids := lists(first)
	for i := range first.Nodes {
		// All lists of a node are filled, while all other nodes are held against what they were.
		kept := copied(first)
		fill(units[i], 0xFFFF)
		fill(limbs[i], 0xFFFFFFFF)
		fill(kids[i], -1)
		kept.Nodes[i] = first.Nodes[i]
		if !tree.Same(first, kept) {
			t.Errorf("what is written into the lists of node %d is in others", i)
		}
	}
	fill(first.Nodes[:cap(first.Nodes)], api.Node{Kind: 77})
	third, _, _ := parse.Parse(u)
	if !tree.Same(second, was) || !tree.Same(third, was) || !slices.Equal(u, source(varied)) {
		t.Error("what is written into a result is in another one, or in the argument")
	}
}

func TestP7_3_GoodTrees(t *testing.T) {
	for _, s := range []string{varied, "", ";", "if (a) if (b) c; else d", "if (a) while (b) if (c) d; else e", "const a", "for (const a;;);", "x = {'': '', a}", "0; 0n", "a.if.class", "(a) = 1; (a.b)++; ++(a[b])", "function f(a, a) { let a, a }", "break a; continue; return"} {
		got, _, errno := parse.Parse(source(s))
		if errno != api.OK || !tree.May(got) {
			t.Errorf("Parse(%q): error %d, or no good tree", s, errno)
			continue
		}
		checkPrinted(t, got)
	}
}

// checkPrinted parses what is printed of a good tree, unless it is too long.
func checkPrinted(t *testing.T, want api.Tree) bool {
	t.Helper()
	u, errno := tree.Print(want)
	if errno == api.ErrLong {
		return false
	}
	got, at, e := parse.Parse(u)
	if errno != api.OK || e != api.OK || at != 0 || !tree.Same(got, want) {
		t.Fatalf("%q is printed, error %d; parsed, error %d at %d, %s; want %s", spelled(u), errno, e, at, shapes(got, []int{0}), shapes(want, []int{0}))
	}
	return true
}
