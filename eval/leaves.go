package eval

import (
	"rendezvous/api"
	"rendezvous/conv"
	"rendezvous/heap"
	"rendezvous/oper"
	"rendezvous/text"
	"rendezvous/tree"
)

// Leaf returns the value of an expression of which nothing else is executed: a
// literal, a Name, This, or what makes a function.
func (r *Realm) Leaf(n int, in Place) (heap.Value, *Jump) {
	node := r.nodes[n]
	switch node.Kind {
	case tree.Name:
		return r.readName(node.Name, in)
	case tree.This:
		return r.this(in)
	case tree.Function:
		return r.functionExpression(n, in)
	case tree.Arrow:
		return r.arrow(n, in)
	}
	return literal(node), nil
}

// literal returns the value that a node alone tells.
func literal(node api.Node) heap.Value {
	switch node.Kind {
	case tree.Number:
		return conv.Num(node.N)
	case tree.Big:
		return bigInt(node.B)
	case tree.String:
		return conv.Str(node.Str)
	case tree.Null:
		return heap.Value{Kind: heap.Null}
	}
	return conv.Truth(node.Kind == tree.True)
}

func (r *Realm) this(in Place) (heap.Value, *Jump) {
	if !in.hasThis {
		return r.fail(conv.Exit)
	}
	return in.this, nil
}

// TypeOfName returns what the operator typeof makes of a Name, which begins like
// every other operand, but may be the name of nothing.
func (r *Realm) TypeOfName(name string, in Place) (heap.Value, *Jump) {
	if j := r.Begin(); j != nil {
		return heap.Value{}, j
	}
	defer r.Done()
	v, _, j := r.lookUp(name, in)
	if j != nil {
		return heap.Value{}, j
	}
	return r.typeOf(v), nil
}

func (r *Realm) typeOf(v heap.Value) heap.Value { return ascii(r.kindName(v)) }

// kindName returns what typeof tells of a value.
func (r *Realm) kindName(v heap.Value) string {
	switch v.Kind {
	case heap.Undefined:
		return "undefined"
	case heap.Boolean:
		return "boolean"
	case heap.Number:
		return "number"
	case heap.BigInt:
		return "bigint"
	case heap.Text:
		return "string"
	}
	if r.isCallable(v) {
		return "function"
	}
	return "object"
}

// Unary returns what an operator makes of a value.
func (r *Realm) Unary(op string, v heap.Value) (heap.Value, *Jump) {
	if op == "typeof" {
		return r.typeOf(v), nil
	}
	v, signal := oper.Unary(op, v)
	return v, r.raise(signal)
}

// Binary returns what an operator makes of two values.
func (r *Realm) Binary(op string, a, b heap.Value) (heap.Value, *Jump) {
	if op == "in" {
		return r.has(a, b)
	}
	v, signal := oper.Binary(op, a, b)
	return v, r.raise(signal)
}

// Step returns a value as a number or a BigInt, and what `++` or `--` makes of that.
func (r *Realm) Step(op string, v heap.Value) (before, after heap.Value, j *Jump) {
	before, signal := conv.Numeric(v)
	if signal != conv.Ok {
		return heap.Value{}, heap.Value{}, r.raise(signal)
	}
	by := 1
	if op == "--" {
		by = -1
	}
	after, signal = oper.Step(before, by)
	return before, after, r.raise(signal)
}

// Decides reports whether a value is the result of a logic operator, whatever
// stands behind it.
func Decides(op string, v heap.Value) bool {
	switch op {
	case "&&":
		return !conv.Bool(v)
	case "||":
		return conv.Bool(v)
	}
	return !isNothing(v)
}

func isNothing(v heap.Value) bool { return v.Kind == heap.Undefined || v.Kind == heap.Null }

// spelled returns a key as a string; the empty one, which is no name, if a unit
// of it is not ASCII.
func spelled(key []uint16) string {
	s, _ := text.Plain(key)
	return s
}
