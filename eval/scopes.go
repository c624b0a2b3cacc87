package eval

import (
	"rendezvous/conv"
	"rendezvous/heap"
	"rendezvous/tree"
)

// place is where a node is executed: in a scope, and with a this, unless there
// is none.
type place struct {
	scope   int
	this    heap.Value
	hasThis bool
}

// inner makes a scope in the present one.
func (r *run) inner(in place) (place, *jump) {
	v, j := r.make(heap.Cell{Kind: heap.Scope, Scope: in.scope})
	in.scope = v.Ref
	return in, j
}

// enter enters the scope of a node with these statements, if they declare a name.
func (r *run) enter(statements []int, in place) (place, *jump) {
	if !r.declares(statements) {
		return in, nil
	}
	in, j := r.inner(in)
	if j != nil {
		return in, j
	}
	return in, r.introduce(statements, in)
}

func (r *run) declares(statements []int) bool {
	for _, n := range statements {
		switch r.nodes[n].Kind {
		case tree.Let, tree.Const, tree.Func:
			return true
		}
	}
	return false
}

// introduce declares the names of all Let, Const and Func among these statements
// in the present scope.
func (r *run) introduce(statements []int, in place) *jump {
	for _, n := range statements {
		node := r.nodes[n]
		switch node.Kind {
		case tree.Let, tree.Const:
			for _, decl := range node.Kids {
				r.heap.Declare(in.scope, r.nodes[decl].Name, heap.Value{}, false, node.Kind == tree.Const)
			}
		case tree.Func:
			f, j := r.function(n, in)
			if j != nil {
				return j
			}
			r.heap.Declare(in.scope, node.Name, f, true, false)
		}
	}
	return nil
}

// turn makes a scope like the present one, for the next turn of a loop.
func (r *run) turn(in place) (place, *jump) {
	c, _ := r.heap.Cell(in.scope)
	v, j := r.make(heap.Cell{Kind: heap.Scope, Scope: c.Scope, Slots: c.Slots})
	in.scope = v.Ref
	return in, j
}

// lookUp returns the value of a name, and whether there is one.
func (r *run) lookUp(name string, in place) (heap.Value, bool, *jump) {
	slot, _, found := r.heap.Look(in.scope, name)
	switch {
	case found && !slot.Ready:
		return heap.Value{}, false, r.raise(conv.Reference)
	case found:
		return slot.V, true, nil
	}
	if v, ok := r.global(name); ok {
		return v, true, nil
	}
	if isUnsupported(name) {
		return heap.Value{}, false, r.raise(conv.Exit)
	}
	return heap.Value{}, false, nil
}

// readName returns the value of a name.
func (r *run) readName(name string, in place) (heap.Value, *jump) {
	v, found, j := r.lookUp(name, in)
	if j == nil && !found {
		return r.fail(conv.Reference)
	}
	return v, j
}

// setName gives a name a value.
func (r *run) setName(name string, v heap.Value, in place) *jump {
	slot, owner, found := r.heap.Look(in.scope, name)
	if !found {
		return r.raise(r.missing(name))
	}
	switch {
	case !slot.Ready:
		return r.raise(conv.Reference)
	case slot.Fixed:
		return r.raise(conv.Type)
	}
	r.heap.Give(owner, name, v, true)
	return nil
}

// missing returns the signal of setting a name that no scope has.
func (r *run) missing(name string) int {
	if _, ok := r.global(name); ok || isUnsupported(name) {
		return conv.Exit
	}
	return conv.Reference
}
