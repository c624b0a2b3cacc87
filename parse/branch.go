package parse

import "rendezvous/api"

// branch is a node with what is inside it. A node becomes part of another one
// after it was read, so that places in the list are only known at the end.
type branch struct {
	node api.Node
	kids []branch
}

func of(kind int, kids ...branch) branch {
	return branch{api.Node{Kind: kind}, kids}
}

func named(kind int, name string, kids ...branch) branch {
	return branch{api.Node{Kind: kind, Name: name}, kids}
}

// laidOut returns the nodes of a branch in the order in which they are met, and their nest.
func laidOut(b branch) ([]api.Node, int) {
	var l layout
	l.add(b, 1)
	return l.nodes, l.nest
}

// layout is a list of nodes that grows, with the greatest nest so far.
type layout struct {
	nodes []api.Node
	nest  int
}

// add appends a branch, whose own nest is given, and returns its place.
func (l *layout) add(b branch, nest int) int {
	n := len(l.nodes)
	l.nodes = append(l.nodes, b.node)
	l.nest = max(l.nest, nest)
	kids := make([]int, len(b.kids))
	for i, kid := range b.kids {
		kids[i] = l.add(kid, nest+1)
	}
	l.nodes[n].Kids = kids
	return n
}
