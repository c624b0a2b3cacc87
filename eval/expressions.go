package eval

import (
	"rendezvous/api"
	"rendezvous/conv"
	"rendezvous/heap"
	"rendezvous/oper"
	"rendezvous/text"
	"rendezvous/tree"
)

// expression executes an expression.
func (r *run) expression(n int, in place) (heap.Value, *jump) {
	if j := r.begin(); j != nil {
		return heap.Value{}, j
	}
	defer r.done()
	node := r.nodes[n]
	switch node.Kind {
	case tree.Name:
		return r.readName(node.Name, in)
	case tree.This:
		return r.this(in)
	case tree.Array:
		return r.arrayLiteral(node, in)
	case tree.Object:
		return r.objectLiteral(node, in)
	case tree.Function:
		return r.functionExpression(n, in)
	case tree.Arrow:
		return r.arrow(n, in)
	case tree.Unary:
		return r.unary(node, in)
	case tree.Pre, tree.Post:
		return r.step(node, in)
	case tree.Binary:
		return r.binary(node, in)
	case tree.Logic:
		return r.logic(node, in)
	case tree.Cond:
		return r.cond(node, in)
	case tree.Assign:
		return r.assign(node, in)
	case tree.Call:
		return r.callExpression(node, in)
	case tree.New:
		return r.newExpression(node, in)
	case tree.Dot, tree.Index:
		v, _, j := r.property(node, in)
		return v, j
	}
	return literal(node), nil
}

// literal returns the value that a node alone tells.
func literal(node api.Node) heap.Value {
	switch node.Kind {
	case tree.Number:
		return conv.Num(node.N)
	case tree.Big:
		return bigInt(node.B)
	case tree.String:
		return conv.Str(node.Str)
	case tree.Null:
		return heap.Value{Kind: heap.Null}
	}
	return conv.Truth(node.Kind == tree.True)
}

func (r *run) this(in place) (heap.Value, *jump) {
	if !in.hasThis {
		return r.fail(conv.Exit)
	}
	return in.this, nil
}

func (r *run) arrayLiteral(node api.Node, in place) (heap.Value, *jump) {
	array, j := r.newArray()
	if j != nil {
		return heap.Value{}, j
	}
	for _, n := range node.Kids {
		v, j := r.expression(n, in)
		if j != nil {
			return heap.Value{}, j
		}
		r.push(array, v)
	}
	return array, nil
}

func (r *run) objectLiteral(node api.Node, in place) (heap.Value, *jump) {
	object, j := r.newPlain(heap.Root)
	if j != nil {
		return heap.Value{}, j
	}
	for _, n := range node.Kids {
		prop := r.nodes[n]
		v, j := r.expression(prop.Kids[0], in)
		if j != nil {
			return heap.Value{}, j
		}
		if j := r.setOfPlain(object, prop.Str, v); j != nil {
			return heap.Value{}, j
		}
	}
	return object, nil
}

func (r *run) unary(node api.Node, in place) (heap.Value, *jump) {
	if node.Name == "typeof" {
		return r.typeOf(node.Kids[0], in)
	}
	v, j := r.expression(node.Kids[0], in)
	if j != nil {
		return heap.Value{}, j
	}
	v, signal := oper.Unary(node.Name, v)
	return v, r.raise(signal)
}

func (r *run) typeOf(n int, in place) (heap.Value, *jump) {
	v, j := r.typeOfOperand(n, in)
	if j != nil {
		return heap.Value{}, j
	}
	return ascii(r.kindName(v)), nil
}

// typeOfOperand returns the value of an expression, and undefined for a Name that
// there is not.
func (r *run) typeOfOperand(n int, in place) (heap.Value, *jump) {
	node := r.nodes[n]
	if node.Kind != tree.Name {
		return r.expression(n, in)
	}
	if j := r.begin(); j != nil {
		return heap.Value{}, j
	}
	defer r.done()
	v, _, j := r.lookUp(node.Name, in)
	return v, j
}

// kindName returns what typeof tells of a value.
func (r *run) kindName(v heap.Value) string {
	switch v.Kind {
	case heap.Undefined:
		return "undefined"
	case heap.Boolean:
		return "boolean"
	case heap.Number:
		return "number"
	case heap.BigInt:
		return "bigint"
	case heap.Text:
		return "string"
	}
	if r.isCallable(v) {
		return "function"
	}
	return "object"
}

// pair executes two expressions.
func (r *run) pair(kids []int, in place) (a, b heap.Value, j *jump) {
	if a, j = r.expression(kids[0], in); j != nil {
		return heap.Value{}, heap.Value{}, j
	}
	b, j = r.expression(kids[1], in)
	return a, b, j
}

func (r *run) binary(node api.Node, in place) (heap.Value, *jump) {
	a, b, j := r.pair(node.Kids, in)
	switch {
	case j != nil:
		return heap.Value{}, j
	case node.Name == "in":
		return r.has(a, b)
	}
	return r.operate(node.Name, a, b)
}

// operate returns what a binary operator makes of two values.
func (r *run) operate(op string, a, b heap.Value) (heap.Value, *jump) {
	v, signal := oper.Binary(op, a, b)
	return v, r.raise(signal)
}

func (r *run) logic(node api.Node, in place) (heap.Value, *jump) {
	v, j := r.expression(node.Kids[0], in)
	if j != nil || decides(node.Name, v) {
		return v, j
	}
	return r.expression(node.Kids[1], in)
}

// decides reports whether a value is the result of a logic operator, whatever
// stands behind it.
func decides(op string, v heap.Value) bool {
	switch op {
	case "&&":
		return !conv.Bool(v)
	case "||":
		return conv.Bool(v)
	}
	return !isNothing(v)
}

func isNothing(v heap.Value) bool { return v.Kind == heap.Undefined || v.Kind == heap.Null }

func (r *run) cond(node api.Node, in place) (heap.Value, *jump) {
	holds, j := r.holds(node.Kids[0], in)
	switch {
	case j != nil:
		return heap.Value{}, j
	case holds:
		return r.expression(node.Kids[1], in)
	}
	return r.expression(node.Kids[2], in)
}

// spelled returns a key as a string; the empty one, which is no name, if a unit
// of it is not ASCII.
func spelled(key []uint16) string {
	s, _ := text.Plain(key)
	return s
}
