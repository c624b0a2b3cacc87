package eval

import (
	"strings"

	"rendezvous/api"
	"rendezvous/conv"
	"rendezvous/elem"
	"rendezvous/heap"
)

// constructBuffer makes a buffer that is not shared.
func (r *Realm) constructBuffer(size heap.Value) (heap.Value, *Jump) {
	n, signal := conv.Index(size)
	if signal != conv.Ok {
		return r.fail(signal)
	}
	return r.newBuffer(n)
}

func (r *Realm) newBuffer(size int) (heap.Value, *Jump) {
	if size > api.MaxText {
		return r.fail(conv.Range)
	}
	return r.make(heap.Cell{Kind: heap.Buffer, Len: size, Bytes: make([]byte, size)})
}

func (r *Realm) constructShared(size, options heap.Value) (heap.Value, *Jump) {
	n, signal := conv.Index(size)
	switch {
	case signal != conv.Ok:
		return r.fail(signal)
	case options.Kind != heap.Undefined:
		return r.fail(conv.Exit)
	}
	a, j := r.ask(Req{Kind: Make, Len: n})
	switch {
	case j != nil:
		return heap.Value{}, j
	case a.Code != 0:
		return r.fail(conv.Range)
	}
	return r.newShared(a.Block, n)
}

func (r *Realm) newShared(block, size int) (heap.Value, *Jump) {
	return r.make(heap.Cell{Kind: heap.SharedBuffer, Buf: block, Len: size})
}

// isBuffer reports whether v is a buffer, shared or not.
func (r *Realm) isBuffer(v heap.Value) bool {
	kind := r.head(v).Kind
	return kind == heap.Buffer || kind == heap.SharedBuffer
}

// constructTyped makes a typed array, of a buffer or of so many elements.
func (r *Realm) constructTyped(kind int, args arguments) (heap.Value, *Jump) {
	size := elem.Size(kind)
	a := args.at(0)
	if r.isBuffer(a) {
		return r.constructTypedOf(heap.Cell{Kind: heap.TypedArray, Elem: kind, Buf: a.Ref}, size, args)
	}
	// The signal is Exit for every other object, as it should be.
	n, signal := conv.Index(a)
	if signal != conv.Ok {
		return r.fail(signal)
	}
	buffer, j := r.newBuffer(n * size)
	if j != nil {
		return heap.Value{}, j
	}
	return r.make(heap.Cell{Kind: heap.TypedArray, Elem: kind, Buf: buffer.Ref, Len: n})
}

// constructTypedOf makes c a typed array of its buffer.
func (r *Realm) constructTypedOf(c heap.Cell, size int, args arguments) (heap.Value, *Jump) {
	from, signal := conv.Index(args.at(1))
	switch {
	case signal != conv.Ok:
		return r.fail(signal)
	case from%size != 0:
		return r.fail(conv.Range)
	}
	c.From = from
	return r.constructPart(c, size, args.at(2))
}

func (r *Realm) constructView(args arguments) (heap.Value, *Jump) {
	if !r.isBuffer(args.at(0)) {
		return r.fail(conv.Type)
	}
	from, signal := conv.Index(args.at(1))
	switch {
	case signal != conv.Ok:
		return r.fail(signal)
	case from > r.head(args.at(0)).Len:
		return r.fail(conv.Range)
	}
	return r.constructPart(heap.Cell{Kind: heap.View, Buf: args.at(0).Ref, From: from}, 1, args.at(2))
}

// constructPart makes c as long as count says, in units of size bytes of its
// buffer; without a count, up to the end.
func (r *Realm) constructPart(c heap.Cell, size int, count heap.Value) (heap.Value, *Jump) {
	all := r.heads[c.Buf].Len
	room := all - c.From
	if count.Kind == heap.Undefined {
		if all%size != 0 || room < 0 {
			return r.fail(conv.Range)
		}
		c.Len = room / size
		return r.make(c)
	}
	n, signal := conv.Index(count)
	switch {
	case signal != conv.Ok:
		return r.fail(signal)
	case n*size > room:
		return r.fail(conv.Range)
	}
	c.Len = n
	return r.make(c)
}

// callOfViews reads or sets an element of a view.
func (r *Realm) callOfViews(x intrinsic, this heap.Value, args arguments) (heap.Value, *Jump) {
	c := r.head(this)
	if c.Kind != heap.View {
		return r.fail(conv.Type)
	}
	i, signal := conv.Index(args.at(0))
	if signal != conv.Ok {
		return r.fail(signal)
	}
	if strings.HasPrefix(x.name, "get") {
		return r.getOfView(c, x.kind, i, conv.Bool(args.at(1)))
	}
	return r.setOfView(c, x.kind, i, args.at(1), conv.Bool(args.at(2)))
}

func (r *Realm) getOfView(c heap.Cell, kind, i int, little bool) (heap.Value, *Jump) {
	if !isInView(c, kind, i) {
		return r.fail(conv.Range)
	}
	w, j := r.load(spot{kind: kind, buf: c.Buf, at: c.From + i}, access{})
	if !little {
		w = reversed(kind, w)
	}
	return element(kind, w), j
}

func (r *Realm) setOfView(c heap.Cell, kind, i int, v heap.Value, little bool) (heap.Value, *Jump) {
	w, signal := wordOf(kind, v)
	switch {
	case signal != conv.Ok:
		return r.fail(signal)
	case !isInView(c, kind, i):
		return r.fail(conv.Range)
	case !little:
		w = reversed(kind, w)
	}
	return heap.Value{}, r.store(spot{kind: kind, buf: c.Buf, at: c.From + i}, access{}, w)
}

// isInView reports whether an element that begins at the byte i is inside a view.
func isInView(c heap.Cell, kind, i int) bool { return i <= c.Len-elem.Size(kind) }
