package eval

import (
	"slices"

	"rendezvous/api"
	"rendezvous/conv"
	"rendezvous/heap"
	"rendezvous/text"
)

// Realm is what a program is executed in: its cells and names, the intrinsics, the
// limits, and the answers to its requests. It does what needs no other node to be
// executed, for those who execute the nodes: Next, and package agent, which goes on
// where it was. (The nodes, places and values that it is given must be its own.)
//
// Whatever requests something has changed nothing until there is an answer, so that
// it can be done again with the answer.
type Realm struct {
	nodes []api.Node
	lim   Limits
	heap  *heap.Heap
	// heads has each cell of the heap without its lists, so that asking for its
	// kind needs no copy of them. The Len of an array counts its elements.
	heads       []heap.Cell
	intrinsics  []intrinsic
	answers     []Ans // those that no request has got yet
	open, begun int   // nodes that have begun and not ended, and in total
}

// NewRealm returns a realm for the nodes of a tree, which it keeps.
func NewRealm(nodes []api.Node, lim Limits) *Realm {
	return &Realm{nodes: nodes, lim: lim, heap: heap.New(lim.Heap), intrinsics: intrinsics()}
}

// Copy returns an independent realm in the same state.
func (r *Realm) Copy() *Realm {
	twin := *r
	twin.heap = r.heap.Copy()
	twin.heads = slices.Clone(r.heads)
	return &twin
}

// Answer sets the answers that the next requests get, which it keeps until then.
func (r *Realm) Answer(l []Ans) { r.answers = l }

// Outcome returns where a program has stopped whose statements have ended so.
func (r *Realm) Outcome(j *Jump) (Req, End) {
	switch {
	case j == nil:
		return Req{}, End{Kind: Done}
	case j.Kind == Throws:
		return Req{}, End{Kind: Thrown, Text: r.told(j.V)}
	}
	return j.req, j.end
}

// told returns what the end of a program tells of a value that was thrown.
func (r *Realm) told(v heap.Value) []uint16 {
	u, signal := conv.Text(v)
	switch {
	case signal == conv.Ok:
		return u
	case r.head(v).Kind == heap.Error:
		return text.Ascii(r.head(v).Name)
	}
	return text.Ascii("object")
}

// Begin begins a node, if the limits let it.
func (r *Realm) Begin() *Jump {
	switch {
	case r.open >= r.lim.Depth:
		return stop(DepthFull)
	case r.begun >= r.lim.Fuel:
		return stop(FuelOut)
	}
	r.open++
	r.begun++
	return nil
}

// Done ends the node that began last.
func (r *Realm) Done() { r.open-- }

// make makes a cell, and returns it as a value.
func (r *Realm) make(c heap.Cell) (heap.Value, *Jump) {
	ref, ok := r.heap.Make(c)
	if !ok {
		return heap.Value{}, stop(HeapFull)
	}
	c.Props, c.Slots, c.Bytes = nil, nil, nil
	r.heads = append(r.heads, c)
	return heap.Value{Kind: heap.Object, Ref: ref}, nil
}

// head returns the cell of an object without its lists; a zero cell for what is
// no object.
func (r *Realm) head(v heap.Value) heap.Cell {
	switch {
	case v.Kind != heap.Object:
		return heap.Cell{}
	case v.Ref >= firstIntrinsic:
		return heap.Cell{Kind: heap.Intrinsic, Node: v.Ref - firstIntrinsic}
	}
	return r.heads[v.Ref]
}

// ask returns the answer to a request; without one, the run stops.
func (r *Realm) ask(q Req) (Ans, *Jump) {
	if len(r.answers) == 0 {
		return Ans{}, &Jump{Kind: Stops, req: q}
	}
	a := r.answers[0]
	r.answers = r.answers[1:]
	return a, nil
}
