package early

import (
	"rendezvous/api"
	"rendezvous/tree"
)

// places has the nodes of a good tree, and of each one the node that it is a
// child of; of the Program, which is a child of none, none.
type places struct {
	nodes   []api.Node
	parents []int
}

const none = -1

func placed(nodes []api.Node) places {
	parents := make([]int, len(nodes))
	parents[0] = none
	for n, node := range nodes {
		for _, kid := range node.Kids {
			parents[kid] = n
		}
	}
	return places{nodes, parents}
}

// names returns the names that must differ where the node n declares its own. A
// body may not declare the names of what it is the body of, which differ from one
// another: that node comes first, and was right.
func (p places) names(n int) []string {
	names := declared(p.nodes, n)
	if p.isBody(n) {
		names = append(names, declared(p.nodes, p.parents[n])...)
	}
	return names
}

// isBody reports whether a node is a Block that is the body of a function or of a Catch.
func (p places) isBody(n int) bool {
	if p.nodes[n].Kind != tree.Block {
		return false
	}
	parent := p.nodes[p.parents[n]].Kind
	return isFunction(parent) || parent == tree.Catch
}

// isConstant reports whether a Decl is one of a Const.
func (p places) isConstant(n int) bool {
	return p.nodes[p.parents[n]].Kind == tree.Const
}

// isAround reports whether one of the nodes around the node n passes a test.
func (p places) isAround(n int, passes func(int) bool) bool {
	for outer := p.parents[n]; outer != none && !isFunction(p.nodes[outer].Kind); outer = p.parents[outer] {
		if passes(outer) {
			return true
		}
	}
	return false
}

// isProgram reports whether a node is the Program, which is around all nodes that
// are not inside any function, and around no other one.
func (p places) isProgram(n int) bool { return p.nodes[n].Kind == tree.Program }

func (p places) isLabel(n int, name string) bool {
	return p.nodes[n].Kind == tree.Label && p.nodes[n].Name == name
}

func (p places) isLoop(n int) bool {
	return p.nodes[n].Kind == tree.While || p.nodes[n].Kind == tree.For
}

// mayMean reports whether a Break or a Continue may mean a node around it.
func (p places) mayMean(jump api.Node, outer int) bool {
	switch {
	case jump.Name == "":
		return p.isLoop(outer)
	case jump.Kind == tree.Break:
		return p.isLabel(outer, jump.Name)
	}
	return p.isLabel(outer, jump.Name) && p.isLoop(p.labelled(outer))
}

// labelled returns the statement that stands behind a Label and all that follow it.
func (p places) labelled(n int) int {
	for p.nodes[n].Kind == tree.Label {
		n = p.nodes[n].Kids[0]
	}
	return n
}

func isFunction(kind int) bool {
	return kind == tree.Func || kind == tree.Function || kind == tree.Arrow
}
