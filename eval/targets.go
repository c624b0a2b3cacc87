package eval

import (
	"strings"

	"rendezvous/api"
	"rendezvous/conv"
	"rendezvous/heap"
	"rendezvous/oper"
	"rendezvous/tree"
)

// target is a target whose parts have been executed: a name, or the property of
// base under key.
type target struct {
	node      api.Node
	base, key heap.Value
}

// parts executes the parts of a target.
func (r *run) parts(node api.Node, in place) (target, *jump) {
	t := target{node: node}
	j := (*jump)(nil)
	switch node.Kind {
	case tree.Dot:
		t.key = ascii(node.Name)
		t.base, j = r.expression(node.Kids[0], in)
	case tree.Index:
		t.base, t.key, j = r.pair(node.Kids, in)
	}
	return t, j
}

// property reads the property that a Dot or an Index means, and returns what it
// was read from, too.
func (r *run) property(node api.Node, in place) (v, base heap.Value, j *jump) {
	t, j := r.parts(node, in)
	if j != nil {
		return heap.Value{}, heap.Value{}, j
	}
	v, j = r.get(t.base, t.key)
	return v, t.base, j
}

func (r *run) readTarget(t target, in place) (heap.Value, *jump) {
	if t.node.Kind == tree.Name {
		return r.readName(t.node.Name, in)
	}
	return r.get(t.base, t.key)
}

func (r *run) setTarget(t target, v heap.Value, in place) *jump {
	if t.node.Kind == tree.Name {
		return r.setName(t.node.Name, v, in)
	}
	return r.set(t.base, t.key, v)
}

func (r *run) assign(node api.Node, in place) (heap.Value, *jump) {
	t, j := r.parts(r.nodes[node.Kids[0]], in)
	if j != nil {
		return heap.Value{}, j
	}
	v, j := r.assigned(t, node, in)
	if j != nil {
		return heap.Value{}, j
	}
	return v, r.setTarget(t, v, in)
}

// assigned returns the value that an Assign sets its target to.
func (r *run) assigned(t target, node api.Node, in place) (heap.Value, *jump) {
	op := strings.TrimSuffix(node.Name, "=")
	if op == "" {
		return r.expression(node.Kids[1], in)
	}
	old, j := r.readTarget(t, in)
	if j != nil {
		return heap.Value{}, j
	}
	by, j := r.expression(node.Kids[1], in)
	if j != nil {
		return heap.Value{}, j
	}
	return r.operate(op, old, by)
}

// step executes a Pre or a Post.
func (r *run) step(node api.Node, in place) (heap.Value, *jump) {
	t, j := r.parts(r.nodes[node.Kids[0]], in)
	if j != nil {
		return heap.Value{}, j
	}
	v, j := r.readTarget(t, in)
	if j != nil {
		return heap.Value{}, j
	}
	before, after, signal := stepped(node.Name, v)
	if signal != conv.Ok {
		return r.fail(signal)
	}
	j = r.setTarget(t, after, in)
	if node.Kind == tree.Post {
		return before, j
	}
	return after, j
}

// stepped returns a value as a number or a BigInt, and the next one, or the one
// ahead of it.
func stepped(op string, v heap.Value) (before, after heap.Value, signal int) {
	before, signal = conv.Numeric(v)
	if signal != conv.Ok {
		return heap.Value{}, heap.Value{}, signal
	}
	by := 1
	if op == "--" {
		by = -1
	}
	after, signal = oper.Step(before, by)
	return before, after, signal
}
