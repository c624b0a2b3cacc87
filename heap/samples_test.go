package heap_test

import (
	"fmt"
	"math"
	"strings"
	"testing"

	"rendezvous/api"
	"rendezvous/heap"
	"rendezvous/text"
)

func key(s string) []uint16 { return text.Ascii(s) }

func whole(n int) heap.Value { return heap.Value{Kind: heap.Number, N: api.Num{N: n}} }

func str(s string) heap.Value { return heap.Value{Kind: heap.Text, S: key(s)} }

func bigInt(neg bool, mag ...uint32) heap.Value {
	return heap.Value{Kind: heap.BigInt, B: api.Big{Neg: neg, Mag: mag}}
}

func made(t *testing.T, h *heap.Heap, c heap.Cell) int {
	t.Helper()
	ref, ok := h.Make(c)
	if !ok {
		t.Fatalf("no room behind %d cells of %d", h.Len(), h.Room())
	}
	return ref
}

// holding makes a heap of these cells.
func holding(t *testing.T, cells ...heap.Cell) *heap.Heap {
	t.Helper()
	h := heap.New(len(cells))
	for _, c := range cells {
		made(t, h, c)
	}
	return h
}

// withKeys is a cell with these keys in their order, whose values tell their places.
func withKeys(keys ...string) heap.Cell {
	c := heap.Cell{Kind: heap.Plain, Proto: heap.Root}
	for i, s := range keys {
		c.Props = append(c.Props, heap.Prop{Key: key(s), V: whole(i)})
	}
	return c
}

// withSlots is a scope with these names in their order, whose values tell their places.
func withSlots(around int, names ...string) heap.Cell {
	c := heap.Cell{Kind: heap.Scope, Scope: around}
	for i, name := range names {
		c.Slots = append(c.Slots, heap.Slot{Name: name, V: whole(i), Ready: i%2 == 0, Fixed: i%3 == 0})
	}
	return c
}

// shown tells all of a thing; a list that is nil is shown as an empty one.
func shown(x any) string { return fmt.Sprintf("%+v", x) }

func plain(keys [][]uint16) string {
	list := []string{}
	for _, k := range keys {
		s, _ := text.Plain(k)
		list = append(list, s)
	}
	return strings.Join(list, " ")
}

// keysOf are the keys of a cell as Keys tells them.
func keysOf(h *heap.Heap, ref int) string { return plain(h.Keys(ref)) }

// inOrder are the keys of a cell as they stand, each with its value.
func inOrder(h *heap.Heap, ref int) string {
	list := []string{}
	for p := range h.Props(ref) {
		s, _ := text.Plain(p.Key)
		list = append(list, fmt.Sprintf("%s:%d", s, p.V.N.N))
	}
	return strings.Join(list, " ")
}

// strangers are the numbers of no cell in a heap of n cells.
func strangers(n int) []int {
	return []int{-1, -2, -3, n, n + 1, 1 << 32, -1 << 32, math.MaxInt, math.MaxInt - 1, math.MinInt, math.MinInt + 1}
}

func someNums() []api.Num {
	return []api.Num{{}, {N: 1}, {N: -7}, {N: api.MaxSafe}, {N: -api.MaxSafe}, {N: api.MaxSafe + 1}, {N: -api.MaxSafe - 1}, {N: math.MinInt},
		{Kind: api.NNegZero}, {Kind: api.NNegZero, N: 1}, {Kind: api.NNaN}, {Kind: api.NNaN, N: -1}, {Kind: api.NInf}, {Kind: api.NInf, N: 5}, {Kind: api.NNegInf}, {Kind: api.NNegInf, N: 1}, {Kind: 5}, {Kind: -1}}
}

func someBigs() []api.Big {
	limbs := []uint32{1, 2, 3, 4, 5, 6, 7, 8, 9}
	return []api.Big{{}, {Mag: []uint32{}}, {Neg: true}, {Mag: []uint32{0}}, {Mag: []uint32{1}}, {Mag: []uint32{2}}, {Neg: true, Mag: []uint32{1}}, {Neg: true, Mag: []uint32{0}},
		{Mag: []uint32{0, 1}}, {Mag: []uint32{1, 0}}, {Mag: limbs[:8]}, {Neg: true, Mag: limbs[:8]}, {Mag: limbs}, {Mag: []uint32{0, 0, 0, 0, 0, 0, 0, 0}}, {Mag: []uint32{1, 2, 3, 4, 5, 6, 7, 0}}}
}

func someTexts() [][]uint16 {
	return [][]uint16{nil, {}, key("a"), key("b"), key("ab"), {0}, {0xD800}, {0xFFFF, 0}, make([]uint16, api.MaxText), make([]uint16, api.MaxText+1)}
}

func someRefs() []int {
	return []int{0, 1, 2, 77, api.MaxHeap, math.MaxInt, -1, -2, math.MinInt}
}

// someKinds are those of values, and some that are none.
func someKinds() []int {
	return []int{0, 1, 2, 3, 4, 5, 6, 7, 8, -1, 1 << 32, math.MaxInt, math.MinInt}
}
