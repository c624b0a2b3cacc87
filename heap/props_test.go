package heap_test

import (
	"fmt"
	"math"
	"slices"
	"strconv"
	"strings"
	"testing"

	"rendezvous/api"
	"rendezvous/heap"
	"rendezvous/text"
)

func TestP9_2_PutAndOwn(t *testing.T) {
	h := holding(t, heap.Cell{}, withKeys("p", "q"))
	steps := []struct {
		key  string
		v    heap.Value
		want string
	}{
		{"b", whole(1), "b:1"}, {"10", whole(2), "b:1 10:2"}, {"9", whole(3), "b:1 10:2 9:3"}, {"b", whole(4), "b:4 10:2 9:3"}, {"", whole(5), "b:4 10:2 9:3 :5"}, {"9", whole(6), "b:4 10:2 9:6 :5"},
		{"B", whole(7), "b:4 10:2 9:6 :5 B:7"}, {"", whole(8), "b:4 10:2 9:6 :8 B:7"}, {"bb", heap.Value{}, "b:4 10:2 9:6 :8 B:7 bb:0"},
	}
	for _, s := range steps {
		if !h.Put(0, key(s.key), s.v) || inOrder(h, 0) != s.want || inOrder(h, 1) != "p:0 q:1" {
			t.Errorf("after Put of %q: %s", s.key, inOrder(h, 0))
		}
		if v, ok := h.Own(0, key(s.key)); !heap.Same(v, s.v) || !ok {
			t.Errorf("Own(%q) = %v, %v", s.key, shown(v), ok)
		}
	}
	for _, s := range []string{"a", "1", "010", "p", "bbb", "9 ", "\x00"} {
		if v, ok := h.Own(0, key(s)); ok || !heap.Same(v, heap.Value{}) {
			t.Errorf("nobody put %q: %v", s, shown(v))
		}
	}
	was := state(h)
	for _, ref := range strangers(2) {
		if v, ok := h.Own(ref, key("b")); h.Put(ref, key("b"), whole(1)) || ok || !heap.Same(v, heap.Value{}) {
			t.Errorf("there is no cell %d", ref)
		}
	}
	if state(h) != was {
		t.Error("a Put that fails changes something")
	}
}

// Keys are told apart unit by unit, values are kept as they are, valid or not, in
// cells of every kind.
func TestP9_2_AllKeysAndValues(t *testing.T) {
	keys := [][]uint16{{}, {0}, {0, 0}, {1}, {256}, {0x0100, 0x0001}, {0x0001, 0x0100}, {0xD800}, {0xDC00}, {0xD800, 0xDC00}, {0xDC00, 0xD800}, {0xFFFF}, {0xFFFD}, {97}, {97 + 256}, {0xFF}, {0xC3, 0xBF}, make([]uint16, 5000)}
	values := []heap.Value{{}, {Kind: 1}, {Kind: 2, Ref: 1}, whole(-3), bigInt(true, 5), str("s"), {Kind: 6, Ref: 3}, {Kind: 99, Ref: -1, S: key("x"), B: api.Big{Neg: true, Mag: []uint32{0}}, N: api.Num{Kind: 9, N: 9}}}
	h := heap.New(20)
	for kind := -1; kind <= 11; kind++ {
		ref := made(t, h, heap.Cell{Kind: kind, Proto: heap.None})
		for i, k := range keys {
			if !h.Put(ref, k, values[i%len(values)]) {
				t.Errorf("kind %d: Put of key %d", kind, i)
			}
		}
		for i, k := range keys {
			v, ok := h.Own(ref, k)
			w, end, found := h.Find(ref, k)
			if want := values[i%len(values)]; !heap.Same(v, want) || !ok || !heap.Same(w, want) || end != 0 || !found {
				t.Errorf("kind %d: key %d is %v", kind, i, shown(v))
			}
		}
		if len(h.Keys(ref)) != len(keys) {
			t.Errorf("kind %d: %d keys", kind, len(h.Keys(ref)))
		}
	}
}

// Each unit is a key of its own, alone and beside another one.
func TestP9_2_KeysOfEachUnit(t *testing.T) {
	h := holding(t, heap.Cell{}, heap.Cell{})
	for unit := range 1 << 16 {
		h.Put(0, []uint16{uint16(unit)}, whole(unit))
		h.Put(1, []uint16{uint16(unit >> 8), uint16(unit & 255)}, whole(unit))
	}
	for unit := range 1 << 16 {
		v, _ := h.Own(0, []uint16{uint16(unit)})
		w, _ := h.Own(1, []uint16{uint16(unit >> 8), uint16(unit & 255)})
		if v.N.N != unit || w.N.N != unit {
			t.Fatalf("the values of %d are %v and %v", unit, shown(v), shown(w))
		}
	}
	if len(h.Keys(0)) != 1<<16 || len(h.Keys(1)) != 1<<16 {
		t.Errorf("%d and %d keys", len(h.Keys(0)), len(h.Keys(1)))
	}
}

// A cell may be made with a key that is there twice; then the first one counts.
func TestP9_2_TheSameKeyTwice(t *testing.T) {
	h := holding(t, withKeys("a", "b", "a", "b", "c", "a"), heap.Cell{})
	for s, want := range map[string]int{"a": 0, "b": 1, "c": 4} {
		if v, ok := h.Own(0, key(s)); !heap.Same(v, whole(want)) || !ok {
			t.Errorf("Own(%q) = %v", s, shown(v))
		}
	}
	h.Put(0, key("a"), whole(7))
	if inOrder(h, 0) != "a:7 b:1 a:2 b:3 c:4 a:5" || keysOf(h, 0) != "a b a b c a" {
		t.Errorf("after Put: %s", inOrder(h, 0))
	}
	for _, c := range []struct {
		n          int
		left       string
		hasA, hasB bool
	}{{5, "a:7 b:1 a:2 b:3 c:4", true, true}, {4, "a:7 b:1 a:2 b:3", true, true}, {3, "a:7 b:1 a:2", true, true}, {2, "a:7 b:1", true, true}, {1, "a:7", true, false}, {7, "", false, false}} {
		v, ok := h.Drop(0)
		_, a := h.Own(0, key("a"))
		_, b := h.Own(0, key("b"))
		if v.N.N != c.n || !ok || inOrder(h, 0) != c.left || a != c.hasA || b != c.hasB {
			t.Errorf("Drop = %v, %v; left %s, a %v, b %v", shown(v), ok, inOrder(h, 0), a, b)
		}
	}
	h.Put(0, key("b"), whole(8))
	h.Put(0, key("a"), whole(9))
	if inOrder(h, 0) != "b:8 a:9" {
		t.Errorf("put anew: %s", inOrder(h, 0))
	}
}

func TestP9_2_Drop(t *testing.T) {
	h := holding(t, withKeys("2", "b", "1", "a"), withKeys("x"), heap.Cell{})
	for _, c := range []struct {
		n    int
		left string
	}{{3, "2:0 b:1 1:2"}, {2, "2:0 b:1"}, {1, "2:0"}, {0, ""}} {
		if v, ok := h.Drop(0); !heap.Same(v, whole(c.n)) || !ok || inOrder(h, 0) != c.left {
			t.Errorf("Drop = %v, %v; left %s", shown(v), ok, inOrder(h, 0))
		}
	}
	for _, ref := range append(strangers(3), 0, 2) {
		if v, ok := h.Drop(ref); ok || !heap.Same(v, heap.Value{}) {
			t.Errorf("Drop(%d) of none = %v", ref, shown(v))
		}
	}
	if _, ok := h.Own(0, key("a")); ok || inOrder(h, 1) != "x:0" || len(h.Keys(0)) != 0 {
		t.Errorf("what was dropped is there, or another cell's is not: %s", inOrder(h, 1))
	}
	// What was dropped is new when it is put again.
	h.Put(0, key("a"), whole(5))
	h.Put(0, key("b"), whole(6))
	h.Drop(0)
	h.Put(0, key("c"), whole(7))
	h.Put(0, key("b"), whole(8))
	if inOrder(h, 0) != "a:5 c:7 b:8" {
		t.Errorf("put again: %s", inOrder(h, 0))
	}
	if v, ok := h.Drop(0); !heap.Same(v, whole(8)) || !ok {
		t.Errorf("Drop = %v", shown(v))
	}
}

func checkFind(t *testing.T, h *heap.Heap, ref int, k string, want heap.Value, end int, found bool) {
	t.Helper()
	if v, e, ok := h.Find(ref, key(k)); !heap.Same(v, want) || e != end || ok != found {
		t.Errorf("Find(%d, %q) = %v, %d, %v; want %v, %d, %v", ref, k, shown(v), e, ok, shown(want), end, found)
	}
}

func along(protos ...int) []heap.Cell {
	cells := []heap.Cell{}
	for ref, proto := range protos {
		c := withKeys("own"+strconv.Itoa(ref), "all")
		c.Proto, c.Props[0].V, c.Props[1].V = proto, whole(100+ref), whole(200+ref)
		cells = append(cells, c)
	}
	return cells
}

func TestP9_2_Find(t *testing.T) {
	h := holding(t, along(-1, 0, 1, -2, 3, -7, 5, math.MinInt, 2)...)
	checkFind(t, h, 0, "own0", whole(100), 0, true)
	checkFind(t, h, 1, "own0", whole(100), 0, true)
	checkFind(t, h, 2, "own0", whole(100), 0, true)
	checkFind(t, h, 8, "own0", whole(100), 0, true)
	checkFind(t, h, 8, "own1", whole(101), 0, true)
	checkFind(t, h, 8, "own8", whole(108), 0, true)
	checkFind(t, h, 4, "own3", whole(103), 0, true)
	checkFind(t, h, 6, "own5", whole(105), 0, true)
	for ref := range 9 {
		checkFind(t, h, ref, "all", whole(200+ref), 0, true)
	}
	// A search goes one way, and tells where it ended.
	for ref, end := range []int{-1, -1, -1, -2, -2, -7, -7, math.MinInt, -1} {
		checkFind(t, h, ref, "none", heap.Value{}, end, false)
	}
	checkFind(t, h, 0, "own1", heap.Value{}, -1, false)
	checkFind(t, h, 4, "own0", heap.Value{}, -2, false)
	for _, ref := range strangers(9) {
		checkFind(t, h, ref, "own0", heap.Value{}, -2, false)
	}
	for _, ref := range strangers(0) {
		checkFind(t, heap.New(3), ref, "a", heap.Value{}, -2, false)
	}
	checkFind(t, heap.New(3), 0, "a", heap.Value{}, -2, false)
}

// Protos that are no cells, and those that lead round.
func TestP9_2_FindWithoutAnEnd(t *testing.T) {
	h := holding(t, along(9, 8, 2, 4, 3, 6, 7, 5, math.MaxInt, 5)...)
	for ref, found := range map[int][]int{0: {0, 9, 5, 6, 7}, 1: {1, 8}, 2: {2}, 3: {3, 4}, 4: {4, 3}, 5: {5, 6, 7}, 6: {6, 7, 5}, 7: {7, 5, 6}, 8: {8}, 9: {9, 5, 6, 7}} {
		for other := range 10 {
			if k := "own" + strconv.Itoa(other); slices.Contains(found, other) {
				checkFind(t, h, ref, k, whole(100+other), 0, true)
			} else {
				checkFind(t, h, ref, k, heap.Value{}, -2, false)
			}
		}
	}
	// A Proto that is no cell yet is one when that was made.
	later := heap.New(2)
	made(t, later, heap.Cell{Proto: 1})
	checkFind(t, later, 0, "a", heap.Value{}, -2, false)
	made(t, later, withKeys("a"))
	checkFind(t, later, 0, "a", whole(0), 0, true)
	checkFind(t, later, 0, "b", heap.Value{}, -1, false)
}

// A search may go through as many cells as there are.
func TestP9_2_FindThroughAll(t *testing.T) {
	for _, n := range []int{1, 2, 3, 100, api.MaxHeap} {
		for _, end := range []int{-1, -2, -3, n, 0, n - 1} {
			h := heap.New(n)
			for ref := range n - 1 {
				made(t, h, heap.Cell{Proto: ref + 1})
			}
			last := withKeys("a")
			last.Proto = end
			made(t, h, last)
			checkFind(t, h, 0, "a", whole(0), 0, true)
			want := end
			if end >= 0 {
				want = -2
			}
			checkFind(t, h, 0, "b", heap.Value{}, want, false)
		}
	}
}

func TestP9_3_Keys(t *testing.T) {
	for _, c := range []struct{ put, want string }{
		{"", ""}, {"a", "a"}, {"b a", "b a"}, {"1 0", "0 1"}, {"b 10 9", "9 10 b"}, {"9 10", "9 10"}, {"10 9 b 2 a 1 c", "1 2 9 10 b a c"},
		{"4294967295 7 007 0 -1 4294967294 a", "0 7 4294967294 4294967295 007 -1 a"},
		{"z 4294967296 00 01 1.0 1e1 +1 0x1 -0 NaN Infinity 3 y", "3 z 4294967296 00 01 1.0 1e1 +1 0x1 -0 NaN Infinity y"},
		{"2147483648 2147483647 4294967294 4294967293", "2147483647 2147483648 4294967293 4294967294"},
		{"100 20 3 1000 200 30 4", "3 4 20 30 100 200 1000"},
	} {
		h := heap.New(1)
		made(t, h, heap.Cell{Kind: heap.Plain})
		fields := strings.Fields(c.put)
		for i, s := range fields {
			h.Put(0, key(s), whole(i))
		}
		for i := range fields {
			h.Put(0, key(fields[len(fields)-1-i]), whole(i))
		}
		if keysOf(h, 0) != c.want {
			t.Errorf("the keys %s are told as %s", c.put, keysOf(h, 0))
		}
		for _, ref := range strangers(1) {
			if len(h.Keys(ref)) != 0 {
				t.Errorf("there is no cell %d: %v", ref, h.Keys(ref))
			}
		}
	}
	// A blank, a unit that is no byte, an empty key, and keys that are there twice.
	c := withKeys("5", "b", "3", "5", "b", "3")
	c.Props = append(c.Props, heap.Prop{Key: key(" 1")}, heap.Prop{Key: []uint16{0x0131}}, heap.Prop{}, heap.Prop{Key: key("0")})
	h := holding(t, c)
	want := [][]uint16{key("0"), key("3"), key("3"), key("5"), key("5"), key("b"), key("b"), key(" 1"), {0x0131}, {}}
	if !slices.EqualFunc(h.Keys(0), want, text.Same) {
		t.Errorf("keys %v; want %v", h.Keys(0), want)
	}
}

func TestP9_3_Props(t *testing.T) {
	h := holding(t, withKeys("b", "10", "9", "a", "b"), heap.Cell{})
	props := h.Props(0)
	for n := 1; n <= 5; n++ {
		seen, calls := "", 0
		for p := range props {
			s, _ := text.Plain(p.Key)
			seen += fmt.Sprint(s, p.V.N.N, " ")
			if calls++; calls == n {
				break
			}
		}
		if all := "b0 101 92 a3 b4 "; seen != strings.Join(strings.SplitAfter(all, " ")[:n], "") {
			t.Errorf("left at %d: %s", n, seen)
		}
		calls = 0
		props(func(heap.Prop) bool {
			calls++
			return calls < n
		})
		if calls != n {
			t.Errorf("%d calls where the loop ended at %d", calls, n)
		}
	}
	if inOrder(h, 0) != "b:0 10:1 9:2 a:3 b:4" || inOrder(h, 1) != "" {
		t.Errorf("properties %s", inOrder(h, 0))
	}
	for _, ref := range strangers(2) {
		if inOrder(h, ref) != "" {
			t.Errorf("there is no cell %d: %s", ref, inOrder(h, ref))
		}
	}
}

// An iterator yields what there was when it was asked for, whatever is called later.
func TestP9_3_PropsOfThatCall(t *testing.T) {
	h := holding(t, withKeys("a", "b", "c"))
	props := h.Props(0)
	seen := ""
	for p := range props {
		s, _ := text.Plain(p.Key)
		seen += fmt.Sprint(s, p.V.N.N, " ")
		h.Put(0, key(s+s), whole(9))
		h.Put(0, key("c"), whole(8))
	}
	if seen != "a0 b1 c2 " || inOrder(h, 0) != "a:0 b:1 c:8 aa:9 bb:9 cc:9" {
		t.Errorf("yields %s; then there are %s", seen, inOrder(h, 0))
	}
	for range 6 {
		h.Drop(0)
	}
	h.Put(0, key("z"), whole(5))
	again := ""
	for p := range props {
		s, _ := text.Plain(p.Key)
		again += fmt.Sprint(s, p.V.N.N, " ")
	}
	if again != seen {
		t.Errorf("yields %s, and then %s", seen, again)
	}
}

func TestP9_3_PropsAheadOfOneCall(t *testing.T) {
	for i, change := range []func(*heap.Heap){
		func(h *heap.Heap) { h.Put(0, key("b"), whole(9)) },
		func(h *heap.Heap) { h.Put(0, key("new"), whole(9)) },
		func(h *heap.Heap) { h.Drop(0) },
		func(h *heap.Heap) { h.Drop(0); h.Put(0, key("new"), whole(9)) },
	} {
		h := holding(t, withKeys("a", "b", "c"))
		props, seen := h.Props(0), ""
		change(h)
		for p := range props {
			s, _ := text.Plain(p.Key)
			seen += fmt.Sprint(s, p.V.N.N, " ")
		}
		if seen != "a0 b1 c2 " {
			t.Errorf("ahead of change %d there was %s", i, seen)
		}
	}
	h := heap.New(1)
	none := h.Props(0)
	made(t, h, withKeys("a"))
	for p := range none {
		t.Errorf("yields %v of a cell that was none yet", shown(p))
	}
}

// Long arrays: each element is found, and the keys are in order.
func TestP9_2_ManyProps(t *testing.T) {
	const many = 100000
	h := holding(t, heap.Cell{Kind: heap.Array, Proto: heap.Root})
	for i := range many {
		h.Put(0, key(strconv.Itoa(many-1-i)), whole(i))
	}
	for i := range many {
		if v, ok := h.Own(0, key(strconv.Itoa(i))); v.N.N != many-1-i || !ok {
			t.Fatalf("element %d is %v", i, shown(v))
		}
	}
	for i, k := range h.Keys(0) {
		if n, _ := text.Key(k); n != i {
			t.Fatalf("key %d is %v", i, k)
		}
	}
	for i := range many {
		if v, ok := h.Drop(0); v.N.N != many-1-i || !ok {
			t.Fatalf("Drop %d is %v", i, shown(v))
		}
	}
	if _, ok := h.Drop(0); ok {
		t.Error("there is one more")
	}
}
