package early_test

import (
	"slices"
	"testing"

	"rendezvous/api"
	"rendezvous/early"
	"rendezvous/tree"
)

// This is a second reading of the chapter. It knows what is inside what by the
// numbers: inside a node are those from behind it up to its last one.

// lastInside is the last node that is inside n, or n itself.
func lastInside(t api.Tree, n int) int {
	for len(t.Nodes[n].Kids) > 0 {
		n = slices.Max(t.Nodes[n].Kids)
	}
	return n
}

func isInside(t api.Tree, n, outer int) bool {
	return outer < n && n <= lastInside(t, outer)
}

func isOneOf(kind int, kinds ...int) bool { return slices.Contains(kinds, kind) }

func hasFunction(kind int) bool { return isOneOf(kind, tree.Func, tree.Function, tree.Arrow) }

// around has the nodes around n.
func around(t api.Tree, n int) []int {
	list := []int{}
	for outer := range t.Nodes {
		if !isInside(t, n, outer) {
			continue
		}
		list = append(list, outer)
		if hasFunction(t.Nodes[outer].Kind) {
			list = nil
		}
	}
	return list
}

// declarations has the names of the Decls of a Let or Const.
func declarations(t api.Tree, n int) []string {
	list := []string{}
	for m, node := range t.Nodes {
		if node.Kind == tree.Decl && slices.Contains(t.Nodes[n].Kids, m) {
			list = append(list, node.Name)
		}
	}
	return list
}

// scopeNames has the names that a node declares.
func scopeNames(t api.Tree, n int) []string {
	node, list := t.Nodes[n], []string{}
	if node.Kind == tree.Catch && node.Name != "" {
		list = append(list, node.Name)
	}
	for i, kid := range node.Kids {
		inner := t.Nodes[kid]
		switch {
		case isOneOf(node.Kind, tree.Program, tree.Block) && inner.Kind == tree.Func:
			list = append(list, inner.Name)
		case isOneOf(node.Kind, tree.Program, tree.Block) && isOneOf(inner.Kind, tree.Let, tree.Const):
			list = append(list, declarations(t, kid)...)
		case node.Kind == tree.For && i == 0 && isOneOf(inner.Kind, tree.Let, tree.Const):
			list = append(list, declarations(t, kid)...)
		case hasFunction(node.Kind) && inner.Kind == tree.Param:
			list = append(list, inner.Name)
		}
	}
	return list
}

func hasTwice(names []string) bool {
	for i, name := range names {
		if slices.Contains(names[i+1:], name) {
			return true
		}
	}
	return false
}

// declaresAgain tells whether n is the body of a function or a Catch, and
// declares one of its names.
func declaresAgain(t api.Tree, n int) bool {
	for m, node := range t.Nodes {
		if !hasFunction(node.Kind) && node.Kind != tree.Catch || !slices.Contains(node.Kids, n) {
			continue
		}
		for _, name := range scopeNames(t, m) {
			if t.Nodes[n].Kind == tree.Block && slices.Contains(scopeNames(t, n), name) {
				return true
			}
		}
	}
	return false
}

// loops tells whether n is a loop, or a Label of one.
func loops(t api.Tree, n int) bool {
	kind := t.Nodes[n].Kind
	return isOneOf(kind, tree.While, tree.For) || kind == tree.Label && loops(t, n+1)
}

// isWrong tells whether n is one of the nodes that a program may not have.
func isWrong(t api.Tree, n int) bool {
	node := t.Nodes[n]
	hasLoop, hasLabel, hasLoopLabel := false, false, false
	for _, outer := range around(t, n) {
		isNamed := t.Nodes[outer].Kind == tree.Label && t.Nodes[outer].Name == node.Name
		hasLoop = hasLoop || isOneOf(t.Nodes[outer].Kind, tree.While, tree.For)
		hasLabel = hasLabel || isNamed
		hasLoopLabel = hasLoopLabel || isNamed && loops(t, outer)
	}
	isBare := node.Name == ""
	switch node.Kind {
	case tree.Decl:
		isConst := false
		for m, outer := range t.Nodes {
			isConst = isConst || outer.Kind == tree.Const && slices.Contains(t.Nodes[m].Kids, n)
		}
		return isConst && len(node.Kids) == 0
	case tree.Label:
		return hasLabel
	case tree.Break:
		return isBare && !hasLoop || !isBare && !hasLabel
	case tree.Continue:
		return isBare && !hasLoop || !isBare && !hasLoopLabel
	case tree.Return:
		for outer := range t.Nodes {
			if hasFunction(t.Nodes[outer].Kind) && isInside(t, n, outer) {
				return false
			}
		}
		return true
	}
	return hasTwice(scopeNames(t, n)) || declaresAgain(t, n)
}

func firstWrong(t api.Tree) (int, api.Errno) {
	for n := range t.Nodes {
		if isWrong(t, n) {
			return n, api.ErrSyntax
		}
	}
	return 0, api.OK
}

// many are all framed sources, and random ones.
func many() []read { return append(framed(), randomTrees(1, 6000)...) }

func TestP8_1_AllTrees(t *testing.T) {
	for _, one := range many() {
		for n := range one.tree.Nodes {
			if got, want := early.Names(one.tree, n), scopeNames(one.tree, n); !slices.Equal(got, want) {
				t.Fatalf("Names(%q, %d) = %q; want %q", one.source, n, got, want)
			}
		}
	}
}

func TestP8_2_AllTrees(t *testing.T) {
	counts := map[int]int{}
	for _, one := range many() {
		n, errno := early.Check(one.tree)
		if m, want := firstWrong(one.tree); n != m || errno != want {
			t.Fatalf("Check(%q) = %d, error %d; want %d, error %d", one.source, n, errno, m, want)
		}
		if errno == api.OK {
			counts[0]++
			continue
		}
		counts[one.tree.Nodes[n].Kind]++
	}
	// Each kind that can be wrong is, and trees without errors are not rare.
	for kind, name := range kindNames {
		if counts[kind] < 20 && kind != tree.Catch || kind == tree.Catch && counts[kind] > 0 {
			t.Errorf("%d trees have their first error at a %s", counts[kind], name)
		}
	}
	if counts[0] < 1000 {
		t.Errorf("only %d trees have no errors", counts[0])
	}
}
