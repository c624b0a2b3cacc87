package eval

import (
	"rendezvous/api"
	"rendezvous/conv"
	"rendezvous/heap"
	"rendezvous/num"
)

func (r *run) callOfAgents(name string, args arguments) (heap.Value, *jump) {
	switch v := args.at(0); name {
	case "start":
		return r.startAgent(v)
	case "broadcast":
		return r.broadcast(v)
	case "receiveBroadcast":
		return r.receive(v)
	case "report":
		return r.report(v)
	case "getReport":
		return r.getReport()
	case "sleep":
		return r.sleep(v)
	}
	a, j := r.ask(Req{Kind: Now})
	return low(a.Word), j
}

// tell requests something whose answer tells nothing.
func (r *run) tell(q Req) (heap.Value, *jump) {
	_, j := r.ask(q)
	return heap.Value{}, j
}

func (r *run) startAgent(source heap.Value) (heap.Value, *jump) {
	if source.Kind != heap.Text {
		return r.fail(conv.Exit)
	}
	return r.tell(Req{Kind: Start, Text: source.S})
}

func (r *run) broadcast(buffer heap.Value) (heap.Value, *jump) {
	c := r.head(buffer)
	if c.Kind != heap.SharedBuffer {
		return r.fail(conv.Type)
	}
	return r.tell(Req{Kind: Broadcast, Block: c.Buf, Len: c.Len})
}

// receive calls a function with the buffer that another agent has broadcast.
func (r *run) receive(f heap.Value) (heap.Value, *jump) {
	c := r.head(f)
	if c.Kind != heap.Function {
		return r.fail(conv.Type)
	}
	a, j := r.ask(Req{Kind: Receive})
	if j != nil {
		return heap.Value{}, j
	}
	buffer, j := r.newShared(a.Block, sizeOf(a.Len))
	if j != nil {
		return heap.Value{}, j
	}
	_, j = r.callFunction(c, heap.Value{}, arguments{buffer})
	return heap.Value{}, j
}

// sizeOf returns the size that an answer tells; what can be none counts as 0.
func sizeOf(n int) int {
	if n < 0 || n > api.MaxSafe {
		return 0
	}
	return n
}

func (r *run) report(v heap.Value) (heap.Value, *jump) {
	u, signal := conv.Text(v)
	if signal != conv.Ok {
		return r.fail(signal)
	}
	return r.tell(Req{Kind: Report, Text: u})
}

func (r *run) getReport() (heap.Value, *jump) {
	a, j := r.ask(Req{Kind: GetReport})
	if a.Code != 0 {
		return heap.Value{Kind: heap.Null}, j
	}
	return conv.Str(a.Text), j
}

func (r *run) sleep(time heap.Value) (heap.Value, *jump) {
	n, signal := conv.Number(time)
	if signal != conv.Ok {
		return r.fail(signal)
	}
	return r.tell(Req{Kind: Sleep, N: notNegative(num.Whole(n))})
}
