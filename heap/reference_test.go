package heap_test

import (
	"fmt"
	"math/rand"
	"slices"
	"sort"
	"strconv"
	"testing"

	"rendezvous/api"
	"rendezvous/heap"
)

// plainHeap is a second reading of the chapter: lists that are gone through from
// the first one on. It never writes into what it holds, so that copies may share it.
type plainHeap struct {
	room  int
	cells []heap.Cell
}

func (p *plainHeap) has(ref int) bool { return 0 <= ref && ref < len(p.cells) }

func (p *plainHeap) make(c heap.Cell) (int, bool) {
	if len(p.cells) == p.room {
		return 0, false
	}
	p.cells = append(slices.Clip(p.cells), c)
	return len(p.cells) - 1, true
}

func (p *plainHeap) place(ref int, key []uint16) int {
	if !p.has(ref) {
		return -1
	}
	return slices.IndexFunc(p.cells[ref].Props, func(one heap.Prop) bool { return slices.Equal(one.Key, key) })
}

func (p *plainHeap) own(ref int, key []uint16) (heap.Value, bool) {
	if at := p.place(ref, key); at >= 0 {
		return p.cells[ref].Props[at].V, true
	}
	return heap.Value{}, false
}

func (p *plainHeap) find(ref int, key []uint16, seen map[int]bool) (heap.Value, int, bool) {
	if !p.has(ref) || seen[ref] {
		return heap.Value{}, -2, false
	}
	if v, ok := p.own(ref, key); ok {
		return v, 0, true
	}
	if p.cells[ref].Proto < 0 {
		return heap.Value{}, p.cells[ref].Proto, false
	}
	seen[ref] = true
	return p.find(p.cells[ref].Proto, key, seen)
}

func (p *plainHeap) put(ref int, key []uint16, v heap.Value) bool {
	if !p.has(ref) {
		return false
	}
	c := &p.cells[ref]
	c.Props = slices.Clone(c.Props)
	if at := p.place(ref, key); at >= 0 {
		c.Props[at].V = v
	} else {
		c.Props = append(c.Props, heap.Prop{Key: key, V: v})
	}
	return true
}

func (p *plainHeap) drop(ref int) (heap.Value, bool) {
	if !p.has(ref) || len(p.cells[ref].Props) == 0 {
		return heap.Value{}, false
	}
	props := p.cells[ref].Props
	p.cells[ref].Props = slices.Clone(props[:len(props)-1])
	return props[len(props)-1].V, true
}

// numberOf reads a key by its digits alone.
func numberOf(key []uint16) (uint64, bool) {
	s := ""
	for _, unit := range key {
		s += string(rune(unit))
	}
	n, err := strconv.ParseUint(s, 10, 32)
	return n, err == nil && n < 1<<32-1 && strconv.FormatUint(n, 10) == s
}

func (p *plainHeap) keys(ref int) [][]uint16 {
	if !p.has(ref) {
		return nil
	}
	numbers, others := [][]uint16{}, [][]uint16{}
	for _, one := range p.cells[ref].Props {
		if _, ok := numberOf(one.Key); ok {
			numbers = append(numbers, one.Key)
		} else {
			others = append(others, one.Key)
		}
	}
	sort.SliceStable(numbers, func(i, j int) bool {
		a, _ := numberOf(numbers[i])
		b, _ := numberOf(numbers[j])
		return a < b
	})
	return append(numbers, others...)
}

func (p *plainHeap) slot(scope int, name string) int {
	if !p.has(scope) {
		return -1
	}
	return slices.IndexFunc(p.cells[scope].Slots, func(s heap.Slot) bool { return s.Name == name })
}

func (p *plainHeap) declare(scope int, name string, v heap.Value, ready, fixed bool) bool {
	if !p.has(scope) || p.slot(scope, name) >= 0 {
		return false
	}
	c := &p.cells[scope]
	c.Slots = append(slices.Clip(c.Slots), heap.Slot{Name: name, V: v, Ready: ready, Fixed: fixed})
	return true
}

func (p *plainHeap) look(scope int, name string, seen map[int]bool) (heap.Slot, int, bool) {
	if !p.has(scope) || seen[scope] {
		return heap.Slot{}, -1, false
	}
	if at := p.slot(scope, name); at >= 0 {
		return p.cells[scope].Slots[at], scope, true
	}
	seen[scope] = true
	return p.look(p.cells[scope].Scope, name, seen)
}

func (p *plainHeap) give(scope int, name string, v heap.Value, ready bool) bool {
	at := p.slot(scope, name)
	if at < 0 {
		return false
	}
	c := &p.cells[scope]
	c.Slots = slices.Clone(c.Slots)
	c.Slots[at].V, c.Slots[at].Ready = v, ready
	return true
}

func (p *plainHeap) write(ref, at int, b []byte) bool {
	if !p.has(ref) || at < 0 || at+len(b) > len(p.cells[ref].Bytes) {
		return false
	}
	c := &p.cells[ref]
	c.Bytes = slices.Concat(c.Bytes[:at], b, c.Bytes[at+len(b):])
	return true
}

func (p *plainHeap) copy() *plainHeap {
	return &plainHeap{p.room, slices.Clone(p.cells)}
}

// pair is a heap, and the plain one to which the same was done.
type pair struct {
	h *heap.Heap
	p *plainHeap
}

// chance makes what calls are given; its keys, names and values are few, so that
// they meet again.
type chance struct{ *rand.Rand }

func (r chance) ref(cells int) int { return r.Intn(cells+4) - 2 }

func (r chance) key() []uint16 {
	keys := [][]uint16{{}, key("a"), key("b"), key("ab"), key("0"), key("1"), key("2"), key("10"), key("01"), key("-1"), key("4294967294"), key("4294967295"), {0xD800}, {'1' + 256}}
	return keys[r.Intn(len(keys))]
}

func (r chance) name() string {
	names := []string{"", "a", "b", "ab", "é", "0"}
	return names[r.Intn(len(names))]
}

func (r chance) value() heap.Value {
	values := []heap.Value{{}, {Kind: 1}, {Kind: 2, Ref: 1}, whole(r.Intn(100)), str(strconv.Itoa(r.Intn(100))), bigInt(true, 3, r.Uint32()), {Kind: 6, Ref: r.Intn(5)}, {Kind: 7, Ref: -1, S: key("no"), N: api.Num{Kind: 7}}}
	return values[r.Intn(len(values))]
}

func (r chance) bool() bool { return r.Intn(2) == 0 }

func (r chance) bytes(most int) []byte {
	b := make([]byte, r.Intn(most+1))
	r.Read(b)
	return b
}

func (r chance) cell(room int) heap.Cell {
	c := heap.Cell{Kind: r.Intn(12), Proto: r.Intn(room+4) - 3, Scope: r.Intn(room+4) - 3, Name: r.name(), Node: r.Intn(9), This: r.value(), Elem: r.Intn(9), Buf: r.Intn(9), From: r.Intn(9), Len: r.Intn(9), Bytes: r.bytes(4)}
	for range r.Intn(4) {
		c.Props = append(c.Props, heap.Prop{Key: r.key(), V: r.value()})
	}
	for range r.Intn(3) {
		c.Slots = append(c.Slots, heap.Slot{Name: r.name(), V: r.value(), Ready: r.bool(), Fixed: r.bool()})
	}
	return c
}

// step calls one thing of both, and tells the call with what each one answered.
func (r chance) step(one pair) (call, got, want string) {
	h, p := one.h, one.p
	ref, k, name, v, ready, fixed := r.ref(len(p.cells)), r.key(), r.name(), r.value(), r.bool(), r.bool()
	switch r.Intn(11) {
	case 0:
		c := r.cell(p.room)
		a, ok := h.Make(c)
		b, okToo := p.make(c)
		return "Make " + shown(c), fmt.Sprint(a, ok), fmt.Sprint(b, okToo)
	case 1, 2:
		return fmt.Sprint("Put ", ref, k, shown(v)), fmt.Sprint(h.Put(ref, k, v)), fmt.Sprint(p.put(ref, k, v))
	case 3:
		a, ok := h.Drop(ref)
		b, okToo := p.drop(ref)
		return fmt.Sprint("Drop ", ref), fmt.Sprint(shown(a), ok), fmt.Sprint(shown(b), okToo)
	case 4:
		a, ok := h.Own(ref, k)
		b, okToo := p.own(ref, k)
		return fmt.Sprint("Own ", ref, k), fmt.Sprint(shown(a), ok), fmt.Sprint(shown(b), okToo)
	case 5:
		a, i, ok := h.Find(ref, k)
		b, j, okToo := p.find(ref, k, map[int]bool{})
		return fmt.Sprint("Find ", ref, k), fmt.Sprint(shown(a), i, ok), fmt.Sprint(shown(b), j, okToo)
	case 6:
		return fmt.Sprint("Keys ", ref), fmt.Sprint(h.Keys(ref)), fmt.Sprint(p.keys(ref))
	case 7:
		return fmt.Sprint("Declare ", ref, name, shown(v)), fmt.Sprint(h.Declare(ref, name, v, ready, fixed)), fmt.Sprint(p.declare(ref, name, v, ready, fixed))
	case 8:
		a, i, ok := h.Look(ref, name)
		b, j, okToo := p.look(ref, name, map[int]bool{})
		return fmt.Sprint("Look ", ref, name), fmt.Sprint(shown(a), i, ok), fmt.Sprint(shown(b), j, okToo)
	case 9:
		return fmt.Sprint("Give ", ref, name, shown(v)), fmt.Sprint(h.Give(ref, name, v, ready)), fmt.Sprint(p.give(ref, name, v, ready))
	}
	at, b := r.Intn(6)-1, r.bytes(4)
	return fmt.Sprint("Write ", ref, at, b), fmt.Sprint(h.Write(ref, at, b)), fmt.Sprint(p.write(ref, at, b))
}

// checkPair holds the whole contents against those of the plain heap.
func checkPair(t *testing.T, one pair) {
	t.Helper()
	if one.h.Len() != len(one.p.cells) || one.h.Room() != one.p.room {
		t.Fatalf("%d cells of %d; want %d of %d", one.h.Len(), one.h.Room(), len(one.p.cells), one.p.room)
	}
	for ref, want := range one.p.cells {
		props := []heap.Prop{}
		for p := range one.h.Props(ref) {
			props = append(props, p)
		}
		if c, ok := one.h.Cell(ref); !ok || shown(c) != shown(want) || shown(props) != shown(want.Props) {
			t.Fatalf("cell %d is %v, with the properties %v; want %v", ref, shown(c), shown(props), shown(want))
		}
	}
}

// Random calls on heaps and their copies answer what a plain reading does.
func TestP9_1_to_P9_5_ManyCalls(t *testing.T) {
	r := chance{rand.New(rand.NewSource(9))}
	yes := map[string]int{}
	for range 500 {
		room := r.Intn(7)
		pairs := []pair{{heap.New(room), &plainHeap{room: room}}}
		for n := range 120 {
			one := pairs[r.Intn(len(pairs))]
			call, got, want := r.step(one)
			if got != want {
				t.Fatalf("%s = %s; want %s", call, got, want)
			}
			if len(got) > 4 && got[len(got)-4:] == "true" {
				yes[call[:4]]++
			}
			if len(pairs) < 3 && r.Intn(40) == 0 {
				pairs = append(pairs, pair{one.h.Copy(), one.p.copy()})
			}
			if n%20 == 19 {
				for _, each := range pairs {
					checkPair(t, each)
				}
			}
		}
	}
	for _, call := range []string{"Make", "Drop", "Own ", "Find", "Look"} {
		if yes[call] < 200 {
			t.Errorf("only %d calls of %s succeed", yes[call], call)
		}
	}
}

// P9.7, of many cells whose Protos and Scopes lead somewhere.
func TestP9_7_WhatFollows(t *testing.T) {
	r := chance{rand.New(rand.NewSource(97))}
	for range 2000 {
		room := 1 + r.Intn(6)
		h := heap.New(room)
		for range room {
			c := r.cell(room)
			c.Props, c.Slots = nil, nil
			made(t, h, c)
		}
		for range 25 {
			ref, k, v := r.Intn(room), r.key(), r.value()
			if !h.Put(ref, k, v) {
				t.Fatal("Put in a cell that is there")
			}
			own, has := h.Own(ref, k)
			found, end, ok := h.Find(ref, k)
			if !has || !heap.Same(own, v) || !ok || end != 0 || !heap.Same(found, v) {
				t.Fatalf("what was put is owned as %v, and found as %v", shown(own), shown(found))
			}
			checkKeys(t, h.Keys(ref), k)
			scope, name := r.Intn(room), r.name()
			_, was, there := h.Look(scope, name)
			if done := h.Declare(scope, name, v, true, false); done == (there && was == scope) {
				t.Fatalf("Declare of %q in %d: %v", name, scope, done)
			}
			checkNearest(t, h, name)
		}
	}
}

// checkKeys looks for a key among those of a cell, where it stands once; those that
// are numbers ascend, and no other one is ahead of them.
func checkKeys(t *testing.T, keys [][]uint16, put []uint16) {
	t.Helper()
	count, others, last := 0, false, int64(-1)
	for _, k := range keys {
		if slices.Equal(k, put) {
			count++
		}
		n, ok := numberOf(k)
		if ok && (others || int64(n) <= last) {
			t.Fatalf("%v stands where it does not belong in %v", k, keys)
		}
		if others = !ok; ok {
			last = int64(n)
		}
	}
	if count != 1 {
		t.Fatalf("the key %v is listed %d times in %v", put, count, keys)
	}
}

// checkNearest looks for a name from each cell on: the nearest one that has it tells it.
func checkNearest(t *testing.T, h *heap.Heap, name string) {
	t.Helper()
	for from := range h.Len() {
		want, at := -1, from
		for range h.Len() {
			c, ok := h.Cell(at)
			if !ok {
				break
			}
			if slices.ContainsFunc(c.Slots, func(s heap.Slot) bool { return s.Name == name }) {
				want = at
				break
			}
			at = c.Scope
		}
		if s, ref, ok := h.Look(from, name); ref != want || ok != (want >= 0) || ok && s.Name != name {
			t.Fatalf("%q is found from %d on in %d, not in %d", name, from, ref, want)
		}
	}
}

func TestP9_3_Examples(t *testing.T) {
	h := heap.New(2)
	made(t, h, heap.Cell{Kind: heap.Plain, Proto: heap.Root})
	for i, s := range []string{"b", "10", "9"} {
		h.Put(0, key(s), whole(i))
	}
	if keysOf(h, 0) != "9 10 b" {
		t.Errorf("Keys(0): %s", keysOf(h, 0))
	}
	if ref := made(t, h, heap.Cell{Kind: heap.Plain, Proto: 0}); ref != 1 {
		t.Errorf("Make: %d", ref)
	}
	checkFind(t, h, 1, "b", whole(0), 0, true)
	checkFind(t, h, 1, "c", heap.Value{}, -1, false)
	if ref, ok := h.Make(heap.Cell{Kind: heap.Plain}); ref != 0 || ok {
		t.Errorf("Make without room: %d, %v", ref, ok)
	}
}
