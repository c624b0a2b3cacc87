package parse_test

import (
	"fmt"
	"slices"
	"strconv"
	"strings"
	"testing"
	"unicode/utf16"

	"rendezvous/api"
	"rendezvous/parse"
	"rendezvous/tree"
)

// source has the units of a text.
func source(s string) []uint16 { return utf16.Encode([]rune(s)) }

// spelled is a text of the units.
func spelled(u []uint16) string { return string(utf16.Decode(u)) }

var kindNames = map[int]string{
	tree.Program: "Program", tree.Empty: "Empty", tree.Expr: "Expr", tree.Block: "Block", tree.Let: "Let", tree.Const: "Const", tree.Decl: "Decl", tree.If: "If", tree.While: "While", tree.For: "For",
	tree.Nothing: "Nothing", tree.Break: "Break", tree.Continue: "Continue", tree.Return: "Return", tree.Throw: "Throw", tree.Try: "Try", tree.Catch: "Catch", tree.Label: "Label", tree.Func: "Func", tree.Param: "Param",
	tree.True: "true", tree.False: "false", tree.Null: "null", tree.This: "this", tree.Array: "Array", tree.Object: "Object", tree.Prop: "Prop", tree.Function: "Function", tree.Arrow: "Arrow", tree.Unary: "Unary",
	tree.Pre: "Pre", tree.Post: "Post", tree.Binary: "Binary", tree.Logic: "Logic", tree.Cond: "Cond", tree.Assign: "Assign", tree.Call: "Call", tree.New: "New", tree.Dot: "Dot", tree.Index: "Index",
}

// shape tells a node and what is inside it: a value, a string or a name as in a
// source, any other kind by its own name, then what the node is called, then
// the kids in parentheses.
func shape(t api.Tree, n int) string {
	node := t.Nodes[n]
	switch node.Kind {
	case tree.Number:
		return strconv.Itoa(node.N.N)
	case tree.Big:
		return fmt.Sprint(node.B.Mag) + "n"
	case tree.String:
		return strconv.Quote(spelled(node.Str))
	case tree.Name:
		return node.Name
	}
	s := kindNames[node.Kind]
	if name := node.Name + spelled(node.Str); name != "" {
		s += ":" + name
	}
	if len(node.Kids) == 0 {
		return s
	}
	return s + "(" + strings.Join(shapes(t, node.Kids), " ") + ")"
}

func shapes(t api.Tree, kids []int) []string {
	list := []string{}
	for _, kid := range kids {
		list = append(list, shape(t, kid))
	}
	return list
}

// checkTree holds the statements of a source against their shapes.
func checkTree(t *testing.T, s, want string) {
	t.Helper()
	got, at, errno := parse.Parse(source(s))
	switch {
	case errno != api.OK || at != 0:
		t.Errorf("Parse(%q): error %d at %d", s, errno, at)
	case !tree.May(got):
		t.Errorf("Parse(%q) is no good tree: %+v", s, got)
	case strings.Join(shapes(got, got.Nodes[0].Kids), " ") != want:
		t.Errorf("Parse(%q) = %s; want %s", s, shapes(got, got.Nodes[0].Kids), want)
	}
}

// checkE holds a source against the shape of the expression that it is.
func checkE(t *testing.T, s, want string) {
	t.Helper()
	checkTree(t, s, "Expr("+want+")")
}

func checkAll(t *testing.T, check func(t *testing.T, s, want string), cases map[string]string) {
	t.Helper()
	for s, want := range cases {
		check(t, s, want)
	}
}

func checkError(t *testing.T, u []uint16, place int, errno api.Errno) {
	t.Helper()
	if got, at, e := parse.Parse(u); at != place || e != errno || len(got.Nodes) > 0 {
		t.Errorf("Parse(%.80q): %d nodes, error %d at %d; want error %d at %d", spelled(u), len(got.Nodes), e, at, errno, place)
	}
}

// checkErrors holds sources against an error. Its place is marked in them by an
// at sign, which is no sign of the language.
func checkErrors(t *testing.T, errno api.Errno, marked ...string) {
	t.Helper()
	for _, s := range marked {
		before, after, ok := strings.Cut(s, "@")
		if !ok {
			t.Errorf("%q has no mark", s)
		}
		checkError(t, source(before+after), len(source(before)), errno)
	}
}

// lists has all lists of a tree, each of them with its whole capacity.
func lists(t api.Tree) (units [][]uint16, limbs [][]uint32, kids [][]int) {
	for _, node := range t.Nodes {
		units = append(units, node.Str[:cap(node.Str)])
		limbs = append(limbs, node.B.Mag[:cap(node.B.Mag)])
		kids = append(kids, node.Kids[:cap(node.Kids)])
	}
	return units, limbs, kids
}

// copied is a tree that shares nothing with t.
func copied(t api.Tree) api.Tree {
	nodes := slices.Clone(t.Nodes)
	for i := range nodes {
		nodes[i].Str = slices.Clone(nodes[i].Str)
		nodes[i].B.Mag = slices.Clone(nodes[i].B.Mag)
		nodes[i].Kids = slices.Clone(nodes[i].Kids)
	}
	return api.Tree{Nodes: nodes}
}

func fill[T any](l []T, with T) {
	for i := range l {
		l[i] = with
	}
}
