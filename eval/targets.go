package eval

import (
	"rendezvous/api"
	"rendezvous/heap"
	"rendezvous/tree"
)

// Target is a target whose parts have been executed: a name, or the property of
// base under key.
type Target struct {
	node      api.Node
	base, key heap.Value
}

// TargetOf returns the target that a node is, given the values of its parts.
func TargetOf(node api.Node, parts []heap.Value) Target {
	switch node.Kind {
	case tree.Dot:
		return Target{node: node, base: parts[0], key: ascii(node.Name)}
	case tree.Index:
		return Target{node: node, base: parts[0], key: parts[1]}
	}
	return Target{node: node}
}

// Read returns the value that a target has.
func (r *Realm) Read(t Target, in Place) (heap.Value, *Jump) {
	if t.node.Kind == tree.Name {
		return r.readName(t.node.Name, in)
	}
	return r.get(t.base, t.key)
}

// Write sets a target to a value.
func (r *Realm) Write(t Target, v heap.Value, in Place) *Jump {
	if t.node.Kind == tree.Name {
		return r.setName(t.node.Name, v, in)
	}
	return r.set(t.base, t.key, v)
}
