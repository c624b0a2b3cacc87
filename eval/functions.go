package eval

import (
	"rendezvous/conv"
	"rendezvous/heap"
	"rendezvous/text"
)

// What the Elem of a function tells of its this: it is that of the call; that of
// the place where an Arrow was made; or there was none at that place.
const (
	thisOfCall = 0
	thisOfMade = 1
	noThis     = 2
)

func (r *Realm) newPlain(proto int) (heap.Value, *Jump) {
	return r.make(heap.Cell{Kind: heap.Plain, Proto: proto})
}

// functionExpression makes a function that may have a name, which it alone sees.
func (r *Realm) functionExpression(n int, in Place) (heap.Value, *Jump) {
	name := r.nodes[n].Name
	if name == "" {
		return r.function(n, in)
	}
	in, j := r.inner(in)
	if j != nil {
		return heap.Value{}, j
	}
	r.heap.Declare(in.scope, name, heap.Value{}, false, true)
	f, j := r.function(n, in)
	if j != nil {
		return heap.Value{}, j
	}
	r.Ready(name, f, in)
	return f, nil
}

// function makes a function that is no Arrow.
func (r *Realm) function(n int, in Place) (heap.Value, *Jump) {
	f, j := r.make(heap.Cell{Kind: heap.Function, Node: n, Scope: in.scope, Elem: thisOfCall})
	if j != nil {
		return heap.Value{}, j
	}
	prototype, j := r.newPlain(heap.Root)
	if j != nil {
		return heap.Value{}, j
	}
	r.heap.Put(f.Ref, prototypeKey(), prototype)
	return f, nil
}

func (r *Realm) arrow(n int, in Place) (heap.Value, *Jump) {
	c := heap.Cell{Kind: heap.Function, Node: n, Scope: in.scope, Elem: noThis}
	if in.hasThis {
		c.Elem, c.This = thisOfMade, in.this
	}
	return r.make(c)
}

func prototypeKey() []uint16 { return text.Ascii("prototype") }

// isCallable reports whether a value is a function, or an intrinsic that can be called.
func (r *Realm) isCallable(v heap.Value) bool {
	c := r.head(v)
	switch c.Kind {
	case heap.Function:
		return true
	case heap.Intrinsic:
		return !r.intrinsics[c.Node].isHolder()
	}
	return false
}

// protoFor returns the Proto of the objects that a function constructs.
func (r *Realm) protoFor(f heap.Value) (int, int) {
	v, _ := r.heap.Own(f.Ref, prototypeKey())
	switch {
	case v.Kind != heap.Object:
		return heap.Root, conv.Ok
	case r.head(v).Kind != heap.Plain:
		return 0, conv.Exit
	}
	return v.Ref, conv.Ok
}
