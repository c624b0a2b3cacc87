package early

import (
	"slices"

	"rendezvous/api"
	"rendezvous/tree"
)

// declared returns the names that a node of a good tree declares, of which only
// a scope has any.
func declared(nodes []api.Node, n int) []string {
	node := nodes[n]
	names := []string{}
	switch node.Kind {
	case tree.Program, tree.Block:
		for _, kid := range node.Kids {
			names = append(names, introduced(nodes, kid)...)
		}
	case tree.For:
		return introduced(nodes, node.Kids[0])
	case tree.Catch:
		if node.Name != "" {
			names = append(names, node.Name)
		}
	case tree.Func, tree.Function, tree.Arrow:
		for _, kid := range node.Kids[:len(node.Kids)-1] {
			names = append(names, nodes[kid].Name)
		}
	}
	return names
}

// introduced returns the names that a node gives to the scope that it is a child of.
func introduced(nodes []api.Node, n int) []string {
	node := nodes[n]
	names := []string{}
	switch node.Kind {
	case tree.Let, tree.Const:
		for _, kid := range node.Kids {
			names = append(names, nodes[kid].Name)
		}
	case tree.Func:
		names = append(names, node.Name)
	}
	return names
}

// allDiffer reports whether no name is there twice. It takes the list over.
func allDiffer(names []string) bool {
	slices.Sort(names)
	return len(slices.Compact(names)) == len(names)
}
