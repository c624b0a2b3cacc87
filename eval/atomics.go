package eval

import (
	"rendezvous/api"
	"rendezvous/conv"
	"rendezvous/heap"
	"rendezvous/num"
)

func (r *Realm) callOfAtomics(name string, args arguments) (heap.Value, *Jump) {
	switch name {
	case "isLockFree":
		return r.isLockFree(args.at(0))
	case "wait":
		return r.wait(args)
	case "notify":
		return r.notify(args)
	}
	c := r.head(args.at(0))
	if c.Kind != heap.TypedArray {
		return r.fail(conv.Type)
	}
	s, j := r.spotAt(c, args.at(1))
	if j != nil {
		return heap.Value{}, j
	}
	if name == "load" {
		w, j := r.load(s, atomic())
		return element(s.kind, w), j
	}
	return r.modify(name, s, args)
}

// spotAt returns where the element of a typed array with this index lies.
func (r *Realm) spotAt(c heap.Cell, index heap.Value) (spot, *Jump) {
	i, signal := conv.Index(index)
	switch {
	case signal != conv.Ok:
		return spot{}, r.raise(signal)
	case i >= c.Len:
		return spot{}, r.raise(conv.Range)
	}
	return spotOf(c, i), nil
}

// modify does what Atomics does with an element and values.
func (r *Realm) modify(name string, s spot, args arguments) (heap.Value, *Jump) {
	v, signal := converted(s.kind, args.at(2))
	if signal != conv.Ok {
		return r.fail(signal)
	}
	w, _ := wordOf(s.kind, v)
	switch name {
	case "store":
		return v, r.store(s, atomic(), w)
	case "compareExchange":
		return r.compareExchange(s, w, args.at(3))
	}
	old, j := r.change(s, operation(name), w)
	return element(s.kind, old), j
}

func (r *Realm) compareExchange(s spot, want uint64, v heap.Value) (heap.Value, *Jump) {
	w, signal := wordOf(s.kind, v)
	if signal != conv.Ok {
		return r.fail(signal)
	}
	old, j := r.swap(s, want, w)
	return element(s.kind, old), j
}

// operation returns the operation of elem.Change with this name.
func operation(name string) int {
	switch name {
	case "add":
		return 1
	case "and":
		return 2
	case "or":
		return 3
	case "sub":
		return 4
	case "xor":
		return 5
	}
	return 6
}

func (r *Realm) isLockFree(size heap.Value) (heap.Value, *Jump) {
	n, signal := conv.Number(size)
	if signal != conv.Ok {
		return r.fail(signal)
	}
	switch num.Whole(n) {
	case api.Num{N: 1}, api.Num{N: 2}, api.Num{N: 4}, api.Num{N: 8}:
		return conv.Truth(true), nil
	}
	return conv.Truth(false), nil
}

// waitable returns the cell of a typed array whose elements agents can wait at.
func (r *Realm) waitable(v heap.Value) (heap.Cell, bool) {
	c := r.head(v)
	return c, c.Kind == heap.TypedArray && (c.Elem == api.EInt32 || c.Elem == api.EBigInt64)
}

func (r *Realm) wait(args arguments) (heap.Value, *Jump) {
	c, ok := r.waitable(args.at(0))
	if !ok || r.heads[c.Buf].Kind != heap.SharedBuffer {
		return r.fail(conv.Type)
	}
	s, j := r.spotAt(c, args.at(1))
	if j != nil {
		return heap.Value{}, j
	}
	want, signal := wordOf(s.kind, args.at(2))
	if signal != conv.Ok {
		return r.fail(signal)
	}
	time, signal := timeout(args.at(3))
	if signal != conv.Ok {
		return r.fail(signal)
	}
	q, _ := r.request(Wait, s)
	q.Want, q.N = want, time
	a, j := r.ask(q)
	return ascii(outcome(a.Code)), j
}

// timeout returns how long an agent waits.
func timeout(v heap.Value) (api.Num, int) {
	n, signal := conv.Number(v)
	if n.Kind == api.NNaN {
		return api.Num{Kind: api.NInf}, signal
	}
	return notNegative(n), signal
}

// notNegative returns 0 for a negative number, and every other one as it is.
func notNegative(n api.Num) api.Num {
	switch n.Kind {
	case api.NNegZero, api.NNegInf:
		return api.Num{}
	}
	return api.Num{Kind: n.Kind, N: max(n.N, 0)}
}

// outcome returns what a wait tells of the code of its answer.
func outcome(code int) string {
	switch code {
	case 0:
		return "ok"
	case 1:
		return "not-equal"
	}
	return "timed-out"
}

func (r *Realm) notify(args arguments) (heap.Value, *Jump) {
	c, ok := r.waitable(args.at(0))
	if !ok {
		return r.fail(conv.Type)
	}
	s, j := r.spotAt(c, args.at(1))
	if j != nil {
		return heap.Value{}, j
	}
	n, signal := count(args.at(2))
	if signal != conv.Ok {
		return r.fail(signal)
	}
	q, shared := r.request(Notify, s)
	if !shared {
		return whole(0), nil
	}
	q.Size, q.N = 0, n
	a, j := r.ask(q)
	return low(a.Word), j
}

// count returns how many agents are woken.
func count(v heap.Value) (api.Num, int) {
	if v.Kind == heap.Undefined {
		return api.Num{Kind: api.NInf}, conv.Ok
	}
	n, signal := conv.Number(v)
	return notNegative(num.Whole(n)), signal
}

// low returns the number of a word modulo 2^53.
func low(w uint64) heap.Value { return whole(int(w & api.MaxSafe)) }
