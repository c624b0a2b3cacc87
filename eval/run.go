package eval

import (
	"rendezvous/api"
	"rendezvous/conv"
	"rendezvous/heap"
	"rendezvous/text"
)

// run is one execution of a program.
type run struct {
	nodes []api.Node
	lim   Limits
	heap  *heap.Heap
	// heads has each cell of the heap without its lists, so that asking for its
	// kind needs no copy of them. The Len of an array counts its elements.
	heads       []heap.Cell
	intrinsics  []intrinsic
	answers     []Ans // those that no request has got yet
	open, begun int   // nodes that have begun and not ended, and in total
	req         Req
	end         End
}

func newRun(nodes []api.Node, lim Limits, l []Ans) *run {
	return &run{nodes: nodes, lim: lim, heap: heap.New(lim.Heap), intrinsics: intrinsics(), answers: l}
}

// program executes the program, and returns where it has stopped.
func (r *run) program() (Req, End) {
	j := r.statementsOfProgram()
	switch {
	case j == nil:
		return Req{}, End{Kind: Done}
	case j.kind == throws:
		return Req{}, End{Kind: Thrown, Text: r.told(j.v)}
	}
	return r.req, r.end
}

// told returns what the end of a program tells of a value that was thrown.
func (r *run) told(v heap.Value) []uint16 {
	u, signal := conv.Text(v)
	switch {
	case signal == conv.Ok:
		return u
	case r.head(v).Kind == heap.Error:
		return text.Ascii(r.head(v).Name)
	}
	return text.Ascii("object")
}

// begin begins a node, if the limits let it.
func (r *run) begin() *jump {
	switch {
	case r.open >= r.lim.Depth:
		return r.stop(DepthFull)
	case r.begun >= r.lim.Fuel:
		return r.stop(FuelOut)
	}
	r.open++
	r.begun++
	return nil
}

// done ends the node that began last.
func (r *run) done() { r.open-- }

// make makes a cell, and returns it as a value.
func (r *run) make(c heap.Cell) (heap.Value, *jump) {
	ref, ok := r.heap.Make(c)
	if !ok {
		return heap.Value{}, r.stop(HeapFull)
	}
	c.Props, c.Slots, c.Bytes = nil, nil, nil
	r.heads = append(r.heads, c)
	return heap.Value{Kind: heap.Object, Ref: ref}, nil
}

// head returns the cell of an object without its lists; a zero cell for what is
// no object.
func (r *run) head(v heap.Value) heap.Cell {
	switch {
	case v.Kind != heap.Object:
		return heap.Cell{}
	case v.Ref >= firstIntrinsic:
		return heap.Cell{Kind: heap.Intrinsic, Node: v.Ref - firstIntrinsic}
	}
	return r.heads[v.Ref]
}

// ask returns the answer to a request; without one, the run stops.
func (r *run) ask(q Req) (Ans, *jump) {
	if len(r.answers) == 0 {
		r.req = q
		return Ans{}, r.stop(Asks)
	}
	a := r.answers[0]
	r.answers = r.answers[1:]
	return a, nil
}
