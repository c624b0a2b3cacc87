package eval

import (
	"rendezvous/api"
	"rendezvous/conv"
	"rendezvous/heap"
	"rendezvous/tree"
)

// arguments are those of a call; those that are missing are undefined.
type arguments []heap.Value

func (l arguments) at(i int) heap.Value {
	if i < len(l) {
		return l[i]
	}
	return heap.Value{}
}

// Body is the body of a function that was called, with its Node, which is a Block
// or an expression, and the place In which it is executed: the names of the
// function and of the Block have been declared there.
type Body struct {
	Node int
	In   Place
	// What the call returns: always undefined; or the object that was made, if the
	// body returns none.
	hears, constructs bool
	made              heap.Value
}

// Result returns what a call returns whose body has returned v.
func (b *Body) Result(v heap.Value) heap.Value {
	switch {
	case b.hears:
		return heap.Value{}
	case b.constructs && v.Kind != heap.Object:
		return b.made
	}
	return v
}

// Call calls f, and returns the value of the call, or the body that is executed
// for it.
func (r *Realm) Call(f, this heap.Value, args []heap.Value) (heap.Value, *Body, *Jump) {
	c := r.head(f)
	switch {
	case !r.isCallable(f):
		return heap.Value{}, nil, r.raise(conv.Type)
	case c.Kind == heap.Function:
		b, j := r.bodyOf(c, this, args)
		return heap.Value{}, b, j
	case r.intrinsics[c.Node].name == hearing:
		b, j := r.receive(arguments(args).at(0))
		return heap.Value{}, b, j
	}
	v, j := r.callIntrinsic(r.intrinsics[c.Node], this, args)
	return v, nil, j
}

// Construct constructs an object by f, and returns it, or the body that is
// executed for it.
func (r *Realm) Construct(f heap.Value, args []heap.Value) (heap.Value, *Body, *Jump) {
	c := r.head(f)
	switch {
	case c.Kind == heap.Intrinsic:
		v, j := r.constructIntrinsic(r.intrinsics[c.Node], args)
		return v, nil, j
	case c.Kind != heap.Function || c.Elem != thisOfCall:
		return heap.Value{}, nil, r.raise(conv.Type)
	}
	proto, signal := r.protoFor(f)
	if signal != conv.Ok {
		return heap.Value{}, nil, r.raise(signal)
	}
	object, j := r.newPlain(proto)
	if j != nil {
		return heap.Value{}, nil, j
	}
	b, j := r.bodyOf(c, object, args)
	if j != nil {
		return heap.Value{}, nil, j
	}
	b.constructs, b.made = true, object
	return heap.Value{}, b, nil
}

// bodyOf returns the body of the function of a cell, which is called.
func (r *Realm) bodyOf(c heap.Cell, this heap.Value, args arguments) (*Body, *Jump) {
	in := Place{scope: c.Scope, this: this, hasThis: c.Elem != noThis}
	if c.Elem == thisOfMade {
		in.this = c.This
	}
	in, j := r.inner(in)
	if j != nil {
		return nil, j
	}
	kids := r.nodes[c.Node].Kids
	last := len(kids) - 1
	for i, param := range kids[:last] {
		r.heap.Declare(in.scope, r.nodes[param].Name, args.at(i), true, false)
	}
	if body := r.nodes[kids[last]]; body.Kind == tree.Block {
		j = r.introduce(body.Kids, in)
	}
	if j != nil {
		return nil, j
	}
	return &Body{Node: kids[last], In: in}, nil
}

func (r *run) callExpression(node api.Node, in Place) (heap.Value, *Jump) {
	f, this, j := r.callee(node.Kids[0], in)
	if j != nil {
		return heap.Value{}, j
	}
	args, j := r.list(node.Kids[1:], in)
	if j != nil {
		return heap.Value{}, j
	}
	return r.execute(r.Call(f, this, args))
}

// callee executes what is called, and returns the function and its this.
func (r *run) callee(n int, in Place) (f, this heap.Value, j *Jump) {
	node := r.nodes[n]
	if node.Kind != tree.Dot && node.Kind != tree.Index {
		f, j = r.expression(n, in)
		return f, heap.Value{}, j
	}
	if j := r.Begin(); j != nil {
		return heap.Value{}, heap.Value{}, j
	}
	defer r.Done()
	return r.property(node, in)
}

func (r *run) newExpression(node api.Node, in Place) (heap.Value, *Jump) {
	f, j := r.expression(node.Kids[0], in)
	if j != nil {
		return heap.Value{}, j
	}
	args, j := r.list(node.Kids[1:], in)
	if j != nil {
		return heap.Value{}, j
	}
	return r.execute(r.Construct(f, args))
}

// execute goes on with what comes of a call: it executes the body, if there is one.
func (r *run) execute(v heap.Value, b *Body, j *Jump) (heap.Value, *Jump) {
	if b == nil {
		return v, j
	}
	body := r.nodes[b.Node]
	if body.Kind != tree.Block {
		v, j = r.expression(b.Node, b.In)
	} else if j = r.inOrder(body.Kids, b.In); j.Is(Returns) {
		v, j = j.V, nil
	}
	if j != nil {
		return heap.Value{}, j
	}
	return b.Result(v), nil
}
