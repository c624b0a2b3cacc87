package heap

import (
	"cmp"
	"iter"
	"math"
	"slices"

	"rendezvous/text"
)

// Own returns the value of the property of the cell with this key.
func (h *Heap) Own(ref int, key []uint16) (Value, bool) {
	c := h.at(ref)
	if c == nil {
		return Value{}, false
	}
	at, ok := c.keys[spelled(key)]
	if !ok {
		return Value{}, false
	}
	return cloned(c.Props[at].V), true
}

// Find returns the value of the property of the cell, or of the nearest one along
// the Protos that has it; otherwise the negative Proto at which the search ended.
func (h *Heap) Find(ref int, key []uint16) (Value, int, bool) {
	name := spelled(key)
cells:
	// Protos may lead round: after as many steps as there are cells, none is new.
	for range h.cells {
		c := h.at(ref)
		switch {
		case c == nil:
			break cells
		case c.keys.has(name):
			return cloned(c.Props[c.keys[name]].V), 0, true
		case c.Proto < 0:
			return Value{}, c.Proto, false
		}
		ref = c.Proto
	}
	return Value{}, None, false
}

// Put sets a property; a new one is placed after all others.
func (h *Heap) Put(ref int, key []uint16, v Value) bool {
	c := h.at(ref)
	if c == nil {
		return false
	}
	name := spelled(key)
	if !c.keys.has(name) {
		c.keys[name] = len(c.Props)
		c.Props = append(c.Props, Prop{Key: slices.Clone(key)})
	}
	c.Props[c.keys[name]].V = cloned(v)
	return true
}

// Drop removes the last property of the cell, and returns its value.
func (h *Heap) Drop(ref int) (Value, bool) {
	c := h.at(ref)
	if c == nil || len(c.Props) == 0 {
		return Value{}, false
	}
	last := len(c.Props) - 1
	p := c.Props[last]
	c.Props = c.Props[:last]
	// A cell may have been made with this key twice; then the first one stays.
	if name := spelled(p.Key); c.keys[name] == last {
		delete(c.keys, name)
	}
	return cloned(p.V), true
}

// Keys returns the keys of the cell: those that are numbers in ascending order,
// then the others in their order.
func (h *Heap) Keys(ref int) [][]uint16 {
	type ranked struct {
		key  []uint16
		rank int
	}
	all := []ranked{}
	for p := range h.Props(ref) {
		rank, ok := text.Key(p.Key)
		if !ok {
			rank = math.MaxInt
		}
		all = append(all, ranked{p.Key, rank})
	}
	slices.SortStableFunc(all, func(a, b ranked) int { return cmp.Compare(a.rank, b.rank) })
	keys := [][]uint16{}
	for _, one := range all {
		keys = append(keys, one.key)
	}
	return keys
}

// Props yields the properties that the cell has at this call, in their order.
func (h *Heap) Props(ref int) iter.Seq[Prop] {
	props := []Prop{}
	if c := h.at(ref); c != nil {
		// Keys and values in a cell are replaced as a whole and never written into,
		// so that the list alone has to be kept from later calls.
		props = slices.Clone(c.Props)
	}
	return func(yield func(Prop) bool) {
		for _, p := range props {
			if !yield(clonedProp(p)) {
				return
			}
		}
	}
}
