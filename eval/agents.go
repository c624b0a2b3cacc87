package eval

import (
	"rendezvous/api"
	"rendezvous/conv"
	"rendezvous/heap"
	"rendezvous/num"
)

func (r *Realm) callOfAgents(name string, args arguments) (heap.Value, *Jump) {
	switch v := args.at(0); name {
	case "start":
		return r.startAgent(v)
	case "broadcast":
		return r.broadcast(v)
	case "report":
		return r.report(v)
	case "getReport":
		return r.getReport()
	case "sleep":
		return r.sleep(v)
	}
	a, j := r.ask(Req{Kind: Now})
	return low(a.Word), j
}

// tell requests something whose answer tells nothing.
func (r *Realm) tell(q Req) (heap.Value, *Jump) {
	_, j := r.ask(q)
	return heap.Value{}, j
}

func (r *Realm) startAgent(source heap.Value) (heap.Value, *Jump) {
	if source.Kind != heap.Text {
		return r.fail(conv.Exit)
	}
	return r.tell(Req{Kind: Start, Text: source.S})
}

func (r *Realm) broadcast(buffer heap.Value) (heap.Value, *Jump) {
	c := r.head(buffer)
	if c.Kind != heap.SharedBuffer {
		return r.fail(conv.Type)
	}
	return r.tell(Req{Kind: Broadcast, Block: c.Buf, Len: c.Len})
}

// receive calls a function with the buffer that another agent has broadcast.
func (r *Realm) receive(f heap.Value) (*Body, *Jump) {
	c := r.head(f)
	if c.Kind != heap.Function {
		return nil, r.raise(conv.Type)
	}
	a, j := r.ask(Req{Kind: Receive})
	if j != nil {
		return nil, j
	}
	buffer, j := r.newShared(a.Block, sizeOf(a.Len))
	if j != nil {
		return nil, j
	}
	b, j := r.bodyOf(c, heap.Value{}, arguments{buffer})
	if j != nil {
		return nil, j
	}
	b.hears = true
	return b, nil
}

// sizeOf returns the size that an answer tells; what can be none counts as 0.
func sizeOf(n int) int {
	if n < 0 || n > api.MaxSafe {
		return 0
	}
	return n
}

func (r *Realm) report(v heap.Value) (heap.Value, *Jump) {
	u, signal := conv.Text(v)
	if signal != conv.Ok {
		return r.fail(signal)
	}
	return r.tell(Req{Kind: Report, Text: u})
}

func (r *Realm) getReport() (heap.Value, *Jump) {
	a, j := r.ask(Req{Kind: GetReport})
	if a.Code != 0 {
		return heap.Value{Kind: heap.Null}, j
	}
	return conv.Str(a.Text), j
}

func (r *Realm) sleep(time heap.Value) (heap.Value, *Jump) {
	n, signal := conv.Number(time)
	if signal != conv.Ok {
		return r.fail(signal)
	}
	return r.tell(Req{Kind: Sleep, N: notNegative(num.Whole(n))})
}
