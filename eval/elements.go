package eval

import (
	"slices"

	"rendezvous/conv"
	"rendezvous/elem"
	"rendezvous/heap"
	"rendezvous/num"
)

// spot is where an element lies: its kind, the cell of its buffer, and its first byte there.
type spot struct {
	kind, buf, at int
}

// access is how an element of a shared buffer is loaded or stored.
type access struct {
	seq, noTear bool
}

// plain is the access of typed arrays, whose elements are torn if they are big.
func plain(kind int) access { return access{noTear: !elem.IsBig(kind)} }

func atomic() access { return access{seq: true, noTear: true} }

// spotOf returns where the element i of a typed array lies.
func spotOf(c heap.Cell, i int) spot {
	return spot{kind: c.Elem, buf: c.Buf, at: c.From + i*elem.Size(c.Elem)}
}

// request returns a request for an element, if its buffer is shared.
func (r *Realm) request(kind int, s spot) (Req, bool) {
	c := r.heads[s.buf]
	if c.Kind != heap.SharedBuffer {
		return Req{}, false
	}
	return Req{Kind: kind, Block: c.Buf, At: s.at, Size: elem.Size(s.kind)}, true
}

// load returns the word of an element.
func (r *Realm) load(s spot, how access) (uint64, *Jump) {
	q, shared := r.request(Load, s)
	if !shared {
		return r.word(s), nil
	}
	q.Seq, q.NoTear = how.seq, how.noTear
	a, j := r.ask(q)
	return a.Word, j
}

// word returns the word of an element of a buffer that is not shared.
func (r *Realm) word(s spot) uint64 {
	c, _ := r.heap.Cell(s.buf)
	w, _ := elem.Word(s.kind, c.Bytes[s.at:s.at+elem.Size(s.kind)])
	return w
}

// write gives such an element a word.
func (r *Realm) write(s spot, w uint64) {
	r.heap.Write(s.buf, s.at, elem.Bytes(s.kind, w))
}

func (r *Realm) store(s spot, how access, w uint64) *Jump {
	q, shared := r.request(Store, s)
	if !shared {
		r.write(s, w)
		return nil
	}
	q.Seq, q.NoTear, q.Word = how.seq, how.noTear, w
	_, j := r.ask(q)
	return j
}

// change changes an element by an operation of elem.Change, and returns the old word.
func (r *Realm) change(s spot, op int, by uint64) (uint64, *Jump) {
	q, shared := r.request(Change, s)
	if !shared {
		old := r.word(s)
		w, _ := elem.Change(s.kind, op, old, by)
		r.write(s, w)
		return old, nil
	}
	q.Seq, q.NoTear, q.Op, q.Word = true, true, op, by
	a, j := r.ask(q)
	return a.Word, j
}

// swap gives an element a word if its old one is want, and returns the old one.
func (r *Realm) swap(s spot, want, w uint64) (uint64, *Jump) {
	q, shared := r.request(Swap, s)
	if !shared {
		old := r.word(s)
		if old == want {
			r.write(s, w)
		}
		return old, nil
	}
	q.Seq, q.NoTear, q.Want, q.Word = true, true, want, w
	a, j := r.ask(q)
	return a.Word, j
}

// getElement reads the element i of a typed array.
func (r *Realm) getElement(c heap.Cell, i int) (heap.Value, *Jump) {
	if i >= c.Len {
		return heap.Value{}, nil
	}
	w, j := r.load(spotOf(c, i), plain(c.Elem))
	return element(c.Elem, w), j
}

// setElement gives the element i of a typed array a value, if there is one.
func (r *Realm) setElement(c heap.Cell, i int, v heap.Value) *Jump {
	w, signal := wordOf(c.Elem, v)
	if signal != conv.Ok || i >= c.Len {
		return r.raise(signal)
	}
	return r.store(spotOf(c, i), plain(c.Elem), w)
}

// element returns the value of a word.
func element(kind int, w uint64) heap.Value {
	if elem.IsBig(kind) {
		return bigInt(elem.ToBig(kind, w))
	}
	return conv.Num(elem.ToNum(kind, w))
}

// converted returns the BigInt or the whole number that a value is as an element,
// ahead of being cut to its size; an infinity stays one.
func converted(kind int, v heap.Value) (heap.Value, int) {
	if elem.IsBig(kind) {
		b, signal := conv.BigInt(v)
		return bigInt(b), signal
	}
	n, signal := conv.Number(v)
	return conv.Num(num.Whole(n)), signal
}

// wordOf returns the word that a value is as an element.
func wordOf(kind int, v heap.Value) (uint64, int) {
	v, signal := converted(kind, v)
	if elem.IsBig(kind) {
		return elem.FromBig(kind, v.B), signal
	}
	return elem.FromNum(kind, v.N), signal
}

// reversed returns the word that has the same bytes in the opposite order.
func reversed(kind int, w uint64) uint64 {
	b := elem.Bytes(kind, w)
	slices.Reverse(b)
	w, _ = elem.Word(kind, b)
	return w
}
