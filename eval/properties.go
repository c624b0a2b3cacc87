package eval

import (
	"rendezvous/api"
	"rendezvous/conv"
	"rendezvous/elem"
	"rendezvous/heap"
	"rendezvous/text"
)

// get reads the property of v under a key.
func (r *Realm) get(v, key heap.Value) (heap.Value, *Jump) {
	k, j := r.keyFor(v, key)
	switch {
	case j != nil:
		return heap.Value{}, j
	case v.Kind == heap.Text:
		return r.getOfText(v.S, k)
	}
	return r.getOfObject(v, k)
}

// keyFor returns a key of v as a text.
func (r *Realm) keyFor(v, key heap.Value) ([]uint16, *Jump) {
	if isNothing(v) {
		return nil, r.raise(conv.Type)
	}
	k, signal := conv.Text(key)
	return k, r.raise(signal)
}

func (r *Realm) getOfText(u, key []uint16) (heap.Value, *Jump) {
	if spelled(key) == "length" {
		return whole(len(u)), nil
	}
	i, ok := text.Key(key)
	switch {
	case !ok:
		return r.fail(conv.Exit)
	case i >= len(u):
		return heap.Value{}, nil
	}
	return conv.Str(u[i : i+1]), nil
}

// getOfObject reads the property of v, which may be of any kind but a text.
func (r *Realm) getOfObject(v heap.Value, key []uint16) (heap.Value, *Jump) {
	c := r.head(v)
	if c.Kind == heap.Plain {
		found, _, j := r.find(v, key)
		return found, j
	}
	if member, ok := r.member(c, spelled(key)); ok {
		return member, nil
	}
	i, ok := text.Key(key)
	switch {
	case c.Kind == heap.Array && ok:
		own, _ := r.heap.Own(v.Ref, key)
		return own, nil
	case c.Kind == heap.TypedArray && ok:
		return r.getElement(c, i)
	case c.Kind == heap.Function:
		if own, ok := r.heap.Own(v.Ref, key); ok {
			return own, nil
		}
	}
	return r.fail(conv.Exit)
}

// find returns the property of a plain object, or of one that it is derived from,
// and whether there is one.
func (r *Realm) find(v heap.Value, key []uint16) (heap.Value, bool, *Jump) {
	found, end, ok := r.heap.Find(v.Ref, key)
	if !ok && end == heap.Root && isOfRoot(spelled(key)) {
		return heap.Value{}, false, r.raise(conv.Exit)
	}
	return found, ok, nil
}

// isOfRoot reports whether the object from which all others are derived has this
// property.
func isOfRoot(name string) bool {
	switch name {
	case "constructor", "__defineGetter__", "__defineSetter__", "hasOwnProperty", "__lookupGetter__",
		"__lookupSetter__", "isPrototypeOf", "propertyIsEnumerable", "toString", "valueOf", "__proto__",
		"toLocaleString":
		return true
	}
	return false
}

// member returns the property that all cells of a kind have, if there is one with
// this name.
func (r *Realm) member(c heap.Cell, name string) (heap.Value, bool) {
	switch c.Kind {
	case heap.Array:
		if name == "length" {
			return whole(c.Len), true
		}
		return r.intrinsic(ofArrays, name)
	case heap.Intrinsic:
		return r.intrinsic(r.intrinsics[c.Node].name, name)
	case heap.Error:
		return memberOfError(c, name)
	case heap.Buffer, heap.SharedBuffer:
		return whole(c.Len), name == "byteLength"
	case heap.TypedArray:
		if name == "length" {
			return whole(c.Len), true
		}
		return memberOfPart(c, c.Len*elem.Size(c.Elem), name)
	case heap.View:
		if v, ok := memberOfPart(c, c.Len, name); ok {
			return v, true
		}
		return r.intrinsic(ofViews, name)
	}
	return heap.Value{}, false
}

func memberOfError(c heap.Cell, name string) (heap.Value, bool) {
	switch name {
	case "name":
		return ascii(c.Name), true
	case "message":
		return c.This, true
	}
	return heap.Value{}, false
}

// memberOfPart returns a property that both typed arrays and views have. They are
// parts of a buffer, of so many bytes.
func memberOfPart(c heap.Cell, size int, name string) (heap.Value, bool) {
	switch name {
	case "byteLength":
		return whole(size), true
	case "byteOffset":
		return whole(c.From), true
	case "buffer":
		return heap.Value{Kind: heap.Object, Ref: c.Buf}, true
	}
	return heap.Value{}, false
}

// set sets the property of base under a key.
func (r *Realm) set(base, key, v heap.Value) *Jump {
	k, j := r.keyFor(base, key)
	switch {
	case j != nil:
		return j
	case base.Kind != heap.Object:
		return r.raise(conv.Type)
	}
	c := r.head(base)
	i, ok := text.Key(k)
	switch {
	case c.Kind == heap.Plain:
		return r.Put(base, k, v)
	case c.Kind == heap.TypedArray && ok:
		return r.setElement(c, i, v)
	case c.Kind == heap.Array && ok && i == c.Len:
		r.Push(base, v)
		return nil
	case c.Kind == heap.Array && ok && i < c.Len, c.Kind == heap.Function && r.owns(base, k):
		r.heap.Put(base.Ref, k, v)
		return nil
	}
	return r.raise(conv.Exit)
}

func (r *Realm) owns(v heap.Value, key []uint16) bool {
	_, ok := r.heap.Own(v.Ref, key)
	return ok
}

// Put sets the property of a plain object under a key.
func (r *Realm) Put(object heap.Value, key []uint16, v heap.Value) *Jump {
	if spelled(key) == "__proto__" {
		return r.raise(conv.Exit)
	}
	r.heap.Put(object.Ref, key, v)
	return nil
}

// has reports whether an object has a property under a key.
func (r *Realm) has(key, object heap.Value) (heap.Value, *Jump) {
	if object.Kind != heap.Object {
		return r.fail(conv.Type)
	}
	k, signal := conv.Text(key)
	if signal != conv.Ok {
		return r.fail(signal)
	}
	c := r.head(object)
	i, ok := text.Key(k)
	switch {
	case c.Kind == heap.Plain:
		_, found, j := r.find(object, k)
		return conv.Truth(found), j
	case ok && (c.Kind == heap.Array || c.Kind == heap.TypedArray):
		return conv.Truth(i < c.Len), nil
	}
	return r.fail(conv.Exit)
}

// whole returns a number that is known to be in the set.
func whole(n int) heap.Value { return conv.Num(api.Num{N: n}) }

func bigInt(b api.Big) heap.Value { return heap.Value{Kind: heap.BigInt, B: b} }
