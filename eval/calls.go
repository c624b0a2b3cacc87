package eval

import (
	"rendezvous/api"
	"rendezvous/conv"
	"rendezvous/heap"
	"rendezvous/text"
	"rendezvous/tree"
)

// What the Elem of a function tells of its this: it is that of the call; that of
// the place where an Arrow was made; or there was none at that place.
const (
	thisOfCall = 0
	thisOfMade = 1
	noThis     = 2
)

// arguments are those of a call; those that are missing are undefined.
type arguments []heap.Value

func (l arguments) at(i int) heap.Value {
	if i < len(l) {
		return l[i]
	}
	return heap.Value{}
}

func (r *run) newPlain(proto int) (heap.Value, *jump) {
	return r.make(heap.Cell{Kind: heap.Plain, Proto: proto})
}

// functionExpression makes a function that may have a name, which it alone sees.
func (r *run) functionExpression(n int, in place) (heap.Value, *jump) {
	name := r.nodes[n].Name
	if name == "" {
		return r.function(n, in)
	}
	in, j := r.inner(in)
	if j != nil {
		return heap.Value{}, j
	}
	r.heap.Declare(in.scope, name, heap.Value{}, false, true)
	f, j := r.function(n, in)
	if j != nil {
		return heap.Value{}, j
	}
	r.heap.Give(in.scope, name, f, true)
	return f, nil
}

// function makes a function that is no Arrow.
func (r *run) function(n int, in place) (heap.Value, *jump) {
	f, j := r.make(heap.Cell{Kind: heap.Function, Node: n, Scope: in.scope, Elem: thisOfCall})
	if j != nil {
		return heap.Value{}, j
	}
	prototype, j := r.newPlain(heap.Root)
	if j != nil {
		return heap.Value{}, j
	}
	r.heap.Put(f.Ref, prototypeKey(), prototype)
	return f, nil
}

func (r *run) arrow(n int, in place) (heap.Value, *jump) {
	c := heap.Cell{Kind: heap.Function, Node: n, Scope: in.scope, Elem: noThis}
	if in.hasThis {
		c.Elem, c.This = thisOfMade, in.this
	}
	return r.make(c)
}

func prototypeKey() []uint16 { return text.Ascii("prototype") }

func (r *run) callExpression(node api.Node, in place) (heap.Value, *jump) {
	f, this, j := r.callee(node.Kids[0], in)
	if j != nil {
		return heap.Value{}, j
	}
	args, j := r.arguments(node.Kids[1:], in)
	if j != nil {
		return heap.Value{}, j
	}
	return r.call(f, this, args)
}

// callee executes what is called, and returns the function and its this.
func (r *run) callee(n int, in place) (f, this heap.Value, j *jump) {
	node := r.nodes[n]
	if node.Kind != tree.Dot && node.Kind != tree.Index {
		f, j = r.expression(n, in)
		return f, heap.Value{}, j
	}
	if j := r.begin(); j != nil {
		return heap.Value{}, heap.Value{}, j
	}
	defer r.done()
	return r.property(node, in)
}

// arguments executes the arguments of a call in their order.
func (r *run) arguments(kids []int, in place) (arguments, *jump) {
	args := arguments{}
	for _, n := range kids {
		v, j := r.expression(n, in)
		if j != nil {
			return nil, j
		}
		args = append(args, v)
	}
	return args, nil
}

// isCallable reports whether a value is a function, or an intrinsic that can be called.
func (r *run) isCallable(v heap.Value) bool {
	c := r.head(v)
	switch c.Kind {
	case heap.Function:
		return true
	case heap.Intrinsic:
		return !r.intrinsics[c.Node].isHolder()
	}
	return false
}

func (r *run) call(f, this heap.Value, args arguments) (heap.Value, *jump) {
	if !r.isCallable(f) {
		return r.fail(conv.Type)
	}
	c := r.head(f)
	if c.Kind == heap.Function {
		return r.callFunction(c, this, args)
	}
	return r.callIntrinsic(r.intrinsics[c.Node], this, args)
}

// callFunction calls the function of a cell.
func (r *run) callFunction(c heap.Cell, this heap.Value, args arguments) (heap.Value, *jump) {
	in := place{scope: c.Scope, this: this, hasThis: c.Elem != noThis}
	if c.Elem == thisOfMade {
		in.this = c.This
	}
	in, j := r.inner(in)
	if j != nil {
		return heap.Value{}, j
	}
	kids := r.nodes[c.Node].Kids
	last := len(kids) - 1
	for i, param := range kids[:last] {
		r.heap.Declare(in.scope, r.nodes[param].Name, args.at(i), true, false)
	}
	body := r.nodes[kids[last]]
	if body.Kind != tree.Block {
		return r.expression(kids[last], in)
	}
	j = r.body(body.Kids, in)
	if j.is(returns) {
		return j.v, nil
	}
	return heap.Value{}, j
}

func (r *run) newExpression(node api.Node, in place) (heap.Value, *jump) {
	f, j := r.expression(node.Kids[0], in)
	if j != nil {
		return heap.Value{}, j
	}
	args, j := r.arguments(node.Kids[1:], in)
	if j != nil {
		return heap.Value{}, j
	}
	return r.construct(f, args)
}

func (r *run) construct(f heap.Value, args arguments) (heap.Value, *jump) {
	c := r.head(f)
	switch {
	case c.Kind == heap.Intrinsic:
		return r.constructIntrinsic(r.intrinsics[c.Node], args)
	case c.Kind != heap.Function || c.Elem != thisOfCall:
		return r.fail(conv.Type)
	}
	proto, signal := r.protoFor(f)
	if signal != conv.Ok {
		return r.fail(signal)
	}
	object, j := r.newPlain(proto)
	if j != nil {
		return heap.Value{}, j
	}
	v, j := r.callFunction(c, object, args)
	if j != nil || v.Kind == heap.Object {
		return v, j
	}
	return object, nil
}

// protoFor returns the Proto of the objects that a function constructs.
func (r *run) protoFor(f heap.Value) (int, int) {
	v, _ := r.heap.Own(f.Ref, prototypeKey())
	switch {
	case v.Kind != heap.Object:
		return heap.Root, conv.Ok
	case r.head(v).Kind != heap.Plain:
		return 0, conv.Exit
	}
	return v.Ref, conv.Ok
}
