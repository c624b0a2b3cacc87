package eval

import (
	"rendezvous/conv"
	"rendezvous/heap"
	"rendezvous/tree"
)

// Place is where a node is executed: in a scope, and with a this, unless there
// is none.
type Place struct {
	scope   int
	this    heap.Value
	hasThis bool
}

// Begun returns where the statements of the program are executed: in its scope,
// which is there even if nothing is declared in it.
func (r *Realm) Begun() (Place, *Jump) {
	in, j := r.inner(Place{scope: heap.Outside})
	if j != nil {
		return in, j
	}
	return in, r.introduce(r.nodes[0].Kids, in)
}

// inner makes a scope in the present one.
func (r *Realm) inner(in Place) (Place, *Jump) {
	v, j := r.make(heap.Cell{Kind: heap.Scope, Scope: in.scope})
	in.scope = v.Ref
	return in, j
}

// Enter enters the scope of a node with these statements, if they declare a name.
func (r *Realm) Enter(statements []int, in Place) (Place, *Jump) {
	if !r.declares(statements) {
		return in, nil
	}
	in, j := r.inner(in)
	if j != nil {
		return in, j
	}
	return in, r.introduce(statements, in)
}

func (r *Realm) declares(statements []int) bool {
	for _, n := range statements {
		switch r.nodes[n].Kind {
		case tree.Let, tree.Const, tree.Func:
			return true
		}
	}
	return false
}

// introduce declares the names of all Let, Const and Func among these statements
// in the present scope.
func (r *Realm) introduce(statements []int, in Place) *Jump {
	for _, n := range statements {
		node := r.nodes[n]
		switch node.Kind {
		case tree.Let, tree.Const:
			for _, decl := range node.Kids {
				r.heap.Declare(in.scope, r.nodes[decl].Name, heap.Value{}, false, node.Kind == tree.Const)
			}
		case tree.Func:
			f, j := r.function(n, in)
			if j != nil {
				return j
			}
			r.heap.Declare(in.scope, node.Name, f, true, false)
		}
	}
	return nil
}

// Catch enters the scope of a Catch, if that has a name for what was thrown.
func (r *Realm) Catch(name string, v heap.Value, in Place) (Place, *Jump) {
	if name == "" {
		return in, nil
	}
	in, j := r.inner(in)
	if j != nil {
		return in, j
	}
	r.heap.Declare(in.scope, name, v, true, false)
	return in, nil
}

// Turn returns where the next turn of a For with this first child is executed:
// with a Let, that is a new scope like the present one.
func (r *Realm) Turn(first int, in Place) (Place, *Jump) {
	if r.nodes[first].Kind != tree.Let {
		return in, nil
	}
	c, _ := r.heap.Cell(in.scope)
	v, j := r.make(heap.Cell{Kind: heap.Scope, Scope: c.Scope, Slots: c.Slots})
	in.scope = v.Ref
	return in, j
}

// Ready gives a name that the present scope declares its first value.
func (r *Realm) Ready(name string, v heap.Value, in Place) {
	r.heap.Give(in.scope, name, v, true)
}

// lookUp returns the value of a name, and whether there is one.
func (r *Realm) lookUp(name string, in Place) (heap.Value, bool, *Jump) {
	slot, _, found := r.heap.Look(in.scope, name)
	switch {
	case found && !slot.Ready:
		return heap.Value{}, false, r.raise(conv.Reference)
	case found:
		return slot.V, true, nil
	}
	if v, ok := r.global(name); ok {
		return v, true, nil
	}
	if isUnsupported(name) {
		return heap.Value{}, false, r.raise(conv.Exit)
	}
	return heap.Value{}, false, nil
}

// readName returns the value of a name.
func (r *Realm) readName(name string, in Place) (heap.Value, *Jump) {
	v, found, j := r.lookUp(name, in)
	if j == nil && !found {
		return r.fail(conv.Reference)
	}
	return v, j
}

// setName gives a name a value.
func (r *Realm) setName(name string, v heap.Value, in Place) *Jump {
	slot, owner, found := r.heap.Look(in.scope, name)
	if !found {
		return r.raise(r.missing(name))
	}
	switch {
	case !slot.Ready:
		return r.raise(conv.Reference)
	case slot.Fixed:
		return r.raise(conv.Type)
	}
	r.heap.Give(owner, name, v, true)
	return nil
}

// missing returns the signal of setting a name that no scope has.
func (r *Realm) missing(name string) int {
	if _, ok := r.global(name); ok || isUnsupported(name) {
		return conv.Exit
	}
	return conv.Reference
}
