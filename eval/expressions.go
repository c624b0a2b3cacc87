package eval

import (
	"strings"

	"rendezvous/api"
	"rendezvous/conv"
	"rendezvous/heap"
	"rendezvous/tree"
)

// expression executes an expression.
func (r *run) expression(n int, in Place) (heap.Value, *Jump) {
	if j := r.Begin(); j != nil {
		return heap.Value{}, j
	}
	defer r.Done()
	node := r.nodes[n]
	switch node.Kind {
	case tree.Array:
		return r.arrayLiteral(node, in)
	case tree.Object:
		return r.objectLiteral(node, in)
	case tree.Unary:
		return r.unary(node, in)
	case tree.Pre, tree.Post:
		return r.step(node, in)
	case tree.Binary:
		return r.binary(node, in)
	case tree.Logic:
		return r.logic(node, in)
	case tree.Cond:
		return r.cond(node, in)
	case tree.Assign:
		return r.assign(node, in)
	case tree.Call:
		return r.callExpression(node, in)
	case tree.New:
		return r.newExpression(node, in)
	case tree.Dot, tree.Index:
		v, _, j := r.property(node, in)
		return v, j
	}
	return r.Leaf(n, in)
}

// list executes expressions in their order.
func (r *run) list(kids []int, in Place) ([]heap.Value, *Jump) {
	values := []heap.Value{}
	for _, n := range kids {
		v, j := r.expression(n, in)
		if j != nil {
			return nil, j
		}
		values = append(values, v)
	}
	return values, nil
}

func (r *run) arrayLiteral(node api.Node, in Place) (heap.Value, *Jump) {
	array, j := r.NewArray()
	if j != nil {
		return heap.Value{}, j
	}
	for _, n := range node.Kids {
		v, j := r.expression(n, in)
		if j != nil {
			return heap.Value{}, j
		}
		r.Push(array, v)
	}
	return array, nil
}

func (r *run) objectLiteral(node api.Node, in Place) (heap.Value, *Jump) {
	object, j := r.NewObject()
	if j != nil {
		return heap.Value{}, j
	}
	for _, n := range node.Kids {
		prop := r.nodes[n]
		v, j := r.expression(prop.Kids[0], in)
		if j != nil {
			return heap.Value{}, j
		}
		if j := r.Put(object, prop.Str, v); j != nil {
			return heap.Value{}, j
		}
	}
	return object, nil
}

func (r *run) unary(node api.Node, in Place) (heap.Value, *Jump) {
	if operand := r.nodes[node.Kids[0]]; node.Name == "typeof" && operand.Kind == tree.Name {
		return r.TypeOfName(operand.Name, in)
	}
	v, j := r.expression(node.Kids[0], in)
	if j != nil {
		return heap.Value{}, j
	}
	return r.Unary(node.Name, v)
}

func (r *run) binary(node api.Node, in Place) (heap.Value, *Jump) {
	values, j := r.list(node.Kids, in)
	if j != nil {
		return heap.Value{}, j
	}
	return r.Binary(node.Name, values[0], values[1])
}

func (r *run) logic(node api.Node, in Place) (heap.Value, *Jump) {
	v, j := r.expression(node.Kids[0], in)
	if j != nil || Decides(node.Name, v) {
		return v, j
	}
	return r.expression(node.Kids[1], in)
}

func (r *run) cond(node api.Node, in Place) (heap.Value, *Jump) {
	holds, j := r.holds(node.Kids[0], in)
	switch {
	case j != nil:
		return heap.Value{}, j
	case holds:
		return r.expression(node.Kids[1], in)
	}
	return r.expression(node.Kids[2], in)
}

// holds reports whether the value of an expression counts as true.
func (r *run) holds(n int, in Place) (bool, *Jump) {
	v, j := r.expression(n, in)
	return j == nil && conv.Bool(v), j
}

// parts executes the parts of a target.
func (r *run) parts(node api.Node, in Place) (Target, *Jump) {
	values, j := r.list(node.Kids, in)
	if j != nil {
		return Target{}, j
	}
	return TargetOf(node, values), nil
}

// property reads the property that a Dot or an Index means, and returns what it
// was read from, too.
func (r *run) property(node api.Node, in Place) (v, base heap.Value, j *Jump) {
	t, j := r.parts(node, in)
	if j != nil {
		return heap.Value{}, heap.Value{}, j
	}
	v, j = r.Read(t, in)
	return v, t.base, j
}

func (r *run) assign(node api.Node, in Place) (heap.Value, *Jump) {
	t, j := r.parts(r.nodes[node.Kids[0]], in)
	if j != nil {
		return heap.Value{}, j
	}
	v, j := r.assigned(t, node, in)
	if j != nil {
		return heap.Value{}, j
	}
	return v, r.Write(t, v, in)
}

// assigned returns the value that an Assign sets its target to.
func (r *run) assigned(t Target, node api.Node, in Place) (heap.Value, *Jump) {
	op := strings.TrimSuffix(node.Name, "=")
	if op == "" {
		return r.expression(node.Kids[1], in)
	}
	old, j := r.Read(t, in)
	if j != nil {
		return heap.Value{}, j
	}
	by, j := r.expression(node.Kids[1], in)
	if j != nil {
		return heap.Value{}, j
	}
	return r.Binary(op, old, by)
}

// step executes a Pre or a Post.
func (r *run) step(node api.Node, in Place) (heap.Value, *Jump) {
	t, j := r.parts(r.nodes[node.Kids[0]], in)
	if j != nil {
		return heap.Value{}, j
	}
	v, j := r.Read(t, in)
	if j != nil {
		return heap.Value{}, j
	}
	before, after, j := r.Step(node.Name, v)
	if j != nil {
		return heap.Value{}, j
	}
	j = r.Write(t, after, in)
	if node.Kind == tree.Post {
		return before, j
	}
	return after, j
}
