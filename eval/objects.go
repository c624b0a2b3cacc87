package eval

import (
	"strconv"

	"rendezvous/api"
	"rendezvous/big"
	"rendezvous/conv"
	"rendezvous/heap"
	"rendezvous/num"
	"rendezvous/text"
)

// NewArray makes an array without elements.
func (r *Realm) NewArray() (heap.Value, *Jump) { return r.make(heap.Cell{Kind: heap.Array}) }

// NewObject makes an object without properties.
func (r *Realm) NewObject() (heap.Value, *Jump) { return r.newPlain(heap.Root) }

// Push adds an element at the end of an array.
func (r *Realm) Push(array, v heap.Value) {
	c := &r.heads[array.Ref]
	r.heap.Put(array.Ref, keyOf(c.Len), v)
	c.Len++
}

// pop removes the last element of an array, and returns it; undefined if there is none.
func (r *Realm) pop(array heap.Value) heap.Value {
	v, ok := r.heap.Drop(array.Ref)
	if ok {
		r.heads[array.Ref].Len--
	}
	return v
}

// keyOf returns the key of an index.
func keyOf(i int) []uint16 { return text.Ascii(strconv.Itoa(i)) }

func (r *Realm) callOfArrays(name string, this heap.Value, args arguments) (heap.Value, *Jump) {
	if r.head(this).Kind != heap.Array {
		return r.fail(conv.Exit)
	}
	if name == "pop" {
		return r.pop(this), nil
	}
	for _, v := range args {
		r.Push(this, v)
	}
	return whole(r.head(this).Len), nil
}

func (r *Realm) callOfObject(name string, args arguments) (heap.Value, *Jump) {
	if name == "keys" {
		return r.keys(args.at(0))
	}
	return r.create(args.at(0), args.at(1))
}

func (r *Realm) keys(object heap.Value) (heap.Value, *Jump) {
	switch c := r.head(object); {
	case isNothing(object):
		return r.fail(conv.Type)
	case c.Kind != heap.Plain && c.Kind != heap.Array:
		return r.fail(conv.Exit)
	}
	array, j := r.NewArray()
	if j != nil {
		return heap.Value{}, j
	}
	for _, key := range r.heap.Keys(object.Ref) {
		r.Push(array, conv.Str(key))
	}
	return array, nil
}

func (r *Realm) create(proto, props heap.Value) (heap.Value, *Jump) {
	switch {
	case proto.Kind == heap.Object && r.head(proto).Kind != heap.Plain:
		return r.fail(conv.Exit)
	case proto.Kind != heap.Object && proto.Kind != heap.Null:
		return r.fail(conv.Type)
	case props.Kind != heap.Undefined:
		return r.fail(conv.Exit)
	case proto.Kind == heap.Null:
		return r.newPlain(heap.None)
	}
	return r.newPlain(proto.Ref)
}

func (r *Realm) toNumber(args arguments) (heap.Value, *Jump) {
	v := args.at(0)
	switch {
	case len(args) == 0:
		return whole(0), nil
	case v.Kind == heap.BigInt:
		n, ok := num.Parse(big.Text(v.B))
		if !ok {
			return r.fail(conv.Exit)
		}
		return conv.Num(n), nil
	}
	n, signal := conv.Number(v)
	if signal != conv.Ok {
		return r.fail(signal)
	}
	return conv.Num(n), nil
}

func (r *Realm) toBigInt(v heap.Value) (heap.Value, *Jump) {
	if v.Kind == heap.Number {
		return r.bigOfNumber(v.N)
	}
	b, signal := conv.BigInt(v)
	if signal != conv.Ok {
		return r.fail(signal)
	}
	return bigInt(b), nil
}

func (r *Realm) bigOfNumber(n api.Num) (heap.Value, *Jump) {
	switch n.Kind {
	case api.NWhole, api.NNegZero:
		// The N of minus zero is 0.
		return bigInt(big.Of(n.N)), nil
	}
	return r.fail(conv.Range)
}

func (r *Realm) toText(args arguments) (heap.Value, *Jump) {
	if len(args) == 0 {
		return conv.Str(nil), nil
	}
	u, signal := conv.Text(args.at(0))
	if signal != conv.Ok {
		return r.fail(signal)
	}
	return conv.Str(u), nil
}

// toError makes an error with this name, whose message is a value as a text.
func (r *Realm) toError(name string, v heap.Value) (heap.Value, *Jump) {
	if v.Kind == heap.Undefined {
		return r.newError(name, nil)
	}
	u, signal := conv.Text(v)
	if signal != conv.Ok {
		return r.fail(signal)
	}
	return r.newError(name, u)
}
