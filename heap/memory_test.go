package heap_test

import (
	"testing"

	"rendezvous/api"
	"rendezvous/heap"
)

// fill writes into a list and all its spare capacity.
func fill[T any](list []T, x T) {
	list = list[:cap(list)]
	for i := range list {
		list[i] = x
	}
}

// rich is a value with all lists, made anew at each call.
func rich(s string) heap.Value {
	return heap.Value{Kind: 99, S: key(s), B: api.Big{Mag: []uint32{uint32(len(s)), 5}}, N: api.Num{N: 3}, Ref: 4}
}

func richCell() heap.Cell {
	return heap.Cell{Kind: 3, Proto: -1, Scope: -1, Name: "n", This: rich("this"), Bytes: []byte("bytes"),
		Props: []heap.Prop{{Key: key("k1"), V: rich("v1")}, {Key: key("7"), V: rich("v2")}, {Key: key("k3"), V: rich("v3")}},
		Slots: []heap.Slot{{Name: "s1", V: rich("w1"), Ready: true}, {Name: "s2", V: rich("w2"), Fixed: true}}}
}

// part is a list inside a thing: what it shows, and what writes into it.
type part struct {
	show func() string
	fill func()
}

func listPart[T any](list []T, x T) part {
	return part{func() string { return shown(list) }, func() {
		fill(list, x)
		_ = append(list, x, x, x)
	}}
}

func partsOfValue(v heap.Value) []part {
	return []part{listPart(v.S, 0xFFFF), listPart(v.B.Mag, 0xFFFFFFFF)}
}

func partsOfProp(p heap.Prop) []part {
	return append(partsOfValue(p.V), listPart(p.Key, 0xFFFE))
}

func partsOfCell(c heap.Cell) []part {
	all := append(partsOfValue(c.This), listPart(c.Bytes, 0xFF))
	for _, p := range c.Props {
		all = append(all, partsOfProp(p)...)
	}
	for _, s := range c.Slots {
		all = append(all, partsOfValue(s.V)...)
	}
	return all
}

func partsOfKeys(keys [][]uint16) []part {
	all := []part{}
	for _, k := range keys {
		all = append(all, listPart(k, 0xFFFD))
	}
	return all
}

// checkApart writes into the lists of a result one by one: no other one changes,
// nor does anything in the heaps.
func checkApart(t *testing.T, what string, parts []part, heaps ...*heap.Heap) {
	t.Helper()
	was := ""
	for _, h := range heaps {
		was += state(h)
	}
	for i, one := range parts {
		before := []string{}
		for _, other := range parts {
			before = append(before, other.show())
		}
		one.fill()
		for j, other := range parts {
			if i != j && other.show() != before[j] {
				t.Errorf("%s: what is written into list %d is in list %d", what, i, j)
			}
		}
	}
	now := ""
	for _, h := range heaps {
		now += state(h)
	}
	if now != was {
		t.Errorf("%s: what is written into the result is in a heap", what)
	}
}

func TestP9_6_ResultsAreNewMemory(t *testing.T) {
	h := heap.New(4)
	made(t, h, richCell())
	made(t, h, heap.Cell{Proto: 0, Scope: 0})
	twin := h.Copy()
	c, _ := h.Cell(0)
	d, _ := h.Cell(0)
	checkApart(t, "Cell", append(partsOfCell(c), partsOfCell(d)...), h, twin)
	c, _ = h.Cell(0)
	checkApart(t, "Cell", []part{listPart(c.Props, heap.Prop{}), listPart(c.Slots, heap.Slot{})}, h, twin)
	v, _ := h.Own(0, key("7"))
	w, _ := h.Own(0, key("7"))
	checkApart(t, "Own", append(partsOfValue(v), partsOfValue(w)...), h, twin)
	for ref := range 2 {
		v, _, _ = h.Find(ref, key("k3"))
		w, _, _ = h.Find(ref, key("k3"))
		checkApart(t, "Find", append(partsOfValue(v), partsOfValue(w)...), h, twin)
		s, _, _ := h.Look(ref, "s2")
		r, _, _ := h.Look(ref, "s2")
		checkApart(t, "Look", append(partsOfValue(s.V), partsOfValue(r.V)...), h, twin)
	}
	keys, again := h.Keys(0), h.Keys(0)
	checkApart(t, "Keys", append(partsOfKeys(keys), partsOfKeys(again)...), h, twin)
	checkApart(t, "Keys", []part{listPart(h.Keys(0), nil)}, h, twin)
	if v, ok := h.Drop(0); !ok || shown(v) != shown(rich("v3")) {
		t.Errorf("Drop = %v", shown(v))
	} else {
		checkApart(t, "Drop", partsOfValue(v), h, twin)
	}
	made(t, h, richCell())
	if shown(h.Keys(2)) != shown(twin.Keys(0)) {
		t.Error("keys are not those of the cell")
	}
}

func TestP9_6_PropsAreNewMemory(t *testing.T) {
	h := heap.New(1)
	made(t, h, richCell())
	twin, props := h.Copy(), h.Props(0)
	parts := []part{}
	for range 3 {
		for p := range props {
			parts = append(parts, partsOfProp(p)...)
		}
	}
	for p := range h.Props(0) {
		parts = append(parts, partsOfProp(p)...)
	}
	checkApart(t, "Props", parts, h, twin)
	// Nor is it in what the iterator yields next.
	want := richCell().Props
	for range 2 {
		i := 0
		for p := range props {
			if shown(p) != shown(want[i]) {
				t.Errorf("property %d is %v", i, shown(p))
			}
			for _, one := range partsOfProp(p) {
				one.fill()
			}
			i++
		}
	}
	// What was dropped is still the iterator's.
	h.Drop(0)
	if v, ok := h.Drop(0); ok {
		checkApart(t, "Drop", partsOfValue(v), h, twin)
	}
	i := 0
	for p := range props {
		if shown(p) != shown(want[i]) {
			t.Errorf("property %d is %v", i, shown(p))
		}
		i++
	}
}

// checkNotKept gives a thing to a call, in lists with more behind them: it is left
// as it is, nothing behind it is read or written, and what is written into it
// later is not in the heap.
func checkNotKept(t *testing.T, what string, h *heap.Heap, parts []part, call func()) {
	t.Helper()
	before := []string{}
	for _, one := range parts {
		before = append(before, one.show())
	}
	call()
	was := state(h)
	for i, one := range parts {
		if one.show() != before[i] {
			t.Errorf("%s changes its argument", what)
		}
	}
	for _, one := range parts {
		one.fill()
	}
	if state(h) != was {
		t.Errorf("%s retains its argument", what)
	}
}

// roomy returns a list with others behind it, and all of it.
func roomy[T any](list []T, more T) (short, all []T) {
	all = append(append([]T{}, list...), more, more, more)
	return all[:len(list)], all
}

// roomyValue returns rich(s) with more behind its lists, and the parts that show it.
func roomyValue(s string) (heap.Value, []part) {
	v := rich(s)
	units, allUnits := roomy(v.S, 77)
	limbs, allLimbs := roomy(v.B.Mag, 78)
	v.S, v.B.Mag = units, limbs
	return v, []part{listPart(allUnits, 0xFFFF), listPart(allLimbs, 0xFFFFFFFF)}
}

func TestP9_6_MakeLeavesItsArgument(t *testing.T) {
	h := heap.New(1)
	c := richCell()
	parts := []part{}
	bytes, allBytes := roomy(c.Bytes, 5)
	this, more := roomyValue("this")
	c.Bytes, c.This = bytes, this
	parts = append(append(parts, listPart(allBytes, 9)), more...)
	for i := range c.Props {
		k, all := roomy(c.Props[i].Key, 6)
		v, more := roomyValue([]string{"v1", "v2", "v3"}[i])
		c.Props[i] = heap.Prop{Key: k, V: v}
		parts = append(append(parts, listPart(all, 9)), more...)
	}
	for i := range c.Slots {
		v, more := roomyValue([]string{"w1", "w2"}[i])
		c.Slots[i].V = v
		parts = append(parts, more...)
	}
	props, allProps := roomy(c.Props, heap.Prop{Key: key("more")})
	slots, allSlots := roomy(c.Slots, heap.Slot{Name: "more"})
	c.Props, c.Slots = props, slots
	outer := []part{listPart(allProps, heap.Prop{}), listPart(allSlots, heap.Slot{})}
	checkNotKept(t, "Make", h, append(parts, outer...), func() { made(t, h, c) })
	if one, _ := h.Cell(0); shown(one) != shown(richCell()) {
		t.Errorf("made %v; want %v", shown(one), shown(richCell()))
	}
	if v, ok := h.Own(0, key("7")); shown(v) != shown(rich("v2")) || !ok {
		t.Errorf("Own = %v", shown(v))
	}
}

func TestP9_6_PutLeavesItsArguments(t *testing.T) {
	for _, put := range []string{"k1", "new", ""} {
		h := heap.New(1)
		made(t, h, richCell())
		k, all := roomy(key(put), 6)
		v, parts := roomyValue("put")
		checkNotKept(t, "Put", h, append(parts, listPart(all, 0x6B)), func() { h.Put(0, k, v) })
		if w, ok := h.Own(0, key(put)); shown(w) != shown(rich("put")) || !ok {
			t.Errorf("Put of %q keeps %v", put, shown(w))
		}
	}
}

func TestP9_6_OthersLeaveTheirArguments(t *testing.T) {
	h := heap.New(2)
	made(t, h, richCell())
	made(t, h, heap.Cell{Proto: 0})
	v, parts := roomyValue("declared")
	checkNotKept(t, "Declare", h, parts, func() { h.Declare(0, "new", v, true, true) })
	w, parts := roomyValue("given")
	checkNotKept(t, "Give", h, parts, func() { h.Give(0, "s1", w, false) })
	s, _, _ := h.Look(0, "new")
	r, _, _ := h.Look(0, "s1")
	if shown(s.V) != shown(rich("declared")) || shown(r.V) != shown(rich("given")) {
		t.Errorf("declared %v, given %v", shown(s), shown(r))
	}
	b, allBytes := roomy([]byte("yt"), 'z')
	checkNotKept(t, "Write", h, []part{listPart(allBytes, 'q')}, func() { h.Write(0, 1, b) })
	if c, _ := h.Cell(0); string(c.Bytes) != "bytes" {
		t.Errorf("Write leaves %q", c.Bytes)
	}
	k, all := roomy(key("k"), '1')
	found := 0
	checkNotKept(t, "Own and Find", h, []part{listPart(all, 9)}, func() {
		if _, ok := h.Own(0, k); ok {
			found++
		}
		if _, _, ok := h.Find(1, k); ok {
			found++
		}
	})
	if found > 0 {
		t.Error("what is behind a key is read")
	}
	// May and Same only look.
	a, parts := roomyValue("a")
	checkNotKept(t, "May and Same", h, parts, func() {
		heap.May(a)
		if !heap.Same(a, rich("a")) || !heap.Same(rich("a"), a) {
			t.Error("Same reads beyond a list")
		}
	})
}

// What one heap has taken from another one is its own.
func TestP9_6_CellsFromHeapToHeap(t *testing.T) {
	h := heap.New(2)
	made(t, h, richCell())
	c, _ := h.Cell(0)
	made(t, h, c)
	h.Write(1, 0, []byte("q"))
	h.Put(1, key("k1"), whole(1))
	h.Give(1, "s1", whole(2), false)
	if one, _ := h.Cell(0); shown(one) != shown(richCell()) {
		t.Errorf("cell 0 is %v", shown(one))
	}
	if shown(c) != shown(richCell()) {
		t.Errorf("what was returned is %v", shown(c))
	}
}
