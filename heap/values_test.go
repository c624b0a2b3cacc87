package heap_test

import (
	"fmt"
	"reflect"
	"slices"
	"testing"

	"rendezvous/api"
	"rendezvous/heap"
)

func TestP9_1_Kinds(t *testing.T) {
	values := []int{heap.Undefined, heap.Null, heap.Boolean, heap.Number, heap.BigInt, heap.Text, heap.Object}
	cells := []int{heap.Plain, heap.Array, heap.Function, heap.Intrinsic, heap.Buffer, heap.SharedBuffer, heap.TypedArray, heap.View, heap.Scope, heap.Error}
	if !slices.Equal(values, []int{0, 1, 2, 3, 4, 5, 6}) || !slices.Equal(cells, []int{1, 2, 3, 4, 5, 6, 7, 8, 9, 10}) {
		t.Errorf("kinds of values %v, of cells %v", values, cells)
	}
	if heap.Root != -1 || heap.None != -2 || heap.Outside != -1 {
		t.Errorf("no cells are %d, %d, %d", heap.Root, heap.None, heap.Outside)
	}
}

// field is one that a value may have: whether it is zero, and whether it is as a
// kind that has it asks for.
type field struct{ zero, fits bool }

// isValid is a second reading of what a valid value is.
func isValid(kind int, n, b, s, ref field, isBit bool) bool {
	switch kind {
	case 0, 1:
		return n.zero && b.zero && s.zero && ref.zero
	case 2:
		return n.zero && b.zero && s.zero && isBit
	case 3:
		return n.fits && b.zero && s.zero && ref.zero
	case 4:
		return n.zero && b.fits && s.zero && ref.zero
	case 5:
		return n.zero && b.zero && s.fits && ref.zero
	case 6:
		return n.zero && b.zero && s.zero && ref.fits
	}
	return false
}

func numField(n api.Num) field {
	fits := n.Kind == 0 && -api.MaxSafe <= n.N && n.N <= api.MaxSafe || 1 <= n.Kind && n.Kind <= 4 && n.N == 0
	return field{n.Kind == 0 && n.N == 0, fits}
}

func bigField(b api.Big) field {
	limbs := len(b.Mag)
	zero := limbs == 0 && !b.Neg
	return field{zero, zero || 0 < limbs && limbs <= api.MaxLimbs && b.Mag[limbs-1] > 0}
}

func TestP9_1_May(t *testing.T) {
	counts := map[bool]int{}
	for _, kind := range someKinds() {
		for _, n := range someNums() {
			for _, b := range someBigs() {
				for _, s := range someTexts() {
					for _, ref := range someRefs() {
						v := heap.Value{Kind: kind, N: n, B: b, S: s, Ref: ref}
						want := isValid(kind, numField(n), bigField(b), field{len(s) == 0, len(s) <= api.MaxText}, field{ref == 0, ref >= 0}, ref == 0 || ref == 1)
						if heap.May(v) != want {
							t.Errorf("May of kind %d, %v, %v, %d units, ref %d: %v", kind, n, b, len(s), ref, !want)
						}
						counts[want]++
					}
				}
			}
		}
	}
	if counts[true] < 50 || counts[false] < 100000 {
		t.Errorf("too few values of one sort: %v", counts)
	}
}

// normal has no empty list that is not nil.
func normal(v heap.Value) heap.Value {
	if len(v.S) == 0 {
		v.S = nil
	}
	if len(v.B.Mag) == 0 {
		v.B.Mag = nil
	}
	return v
}

func TestP9_1_Same(t *testing.T) {
	all := []heap.Value{}
	for _, kind := range someKinds() {
		for _, n := range someNums()[:3] {
			all = append(all, heap.Value{Kind: kind, N: n})
		}
		for _, b := range someBigs() {
			all = append(all, heap.Value{Kind: kind, B: b})
		}
		for _, s := range someTexts() {
			all = append(all, heap.Value{Kind: kind, S: s}, heap.Value{Kind: kind, S: s, Ref: 2})
		}
		for _, ref := range someRefs() {
			all = append(all, heap.Value{Kind: kind, Ref: ref})
		}
	}
	for _, n := range someNums() {
		all = append(all, heap.Value{Kind: 3, N: n}, heap.Value{Kind: 3, N: n, B: api.Big{Mag: []uint32{1}}})
	}
	for i, a := range all {
		for j, b := range all {
			if want := reflect.DeepEqual(normal(a), normal(b)); heap.Same(a, b) != want {
				t.Errorf("Same of %d and %d: %v; %.80v and %.80v", i, j, !want, shown(a), shown(b))
			}
		}
	}
}

// Each field that differs alone is told, also where a list only begins alike.
func TestP9_1_SameFieldByField(t *testing.T) {
	a := heap.Value{Kind: 3, N: api.Num{Kind: 1, N: 2}, B: api.Big{Neg: true, Mag: []uint32{1, 2}}, S: key("ab"), Ref: 4}
	for i, change := range []func(*heap.Value){
		func(v *heap.Value) {},
		func(v *heap.Value) { v.Kind = 2 }, func(v *heap.Value) { v.N.Kind = 2 }, func(v *heap.Value) { v.N.N = 1 }, func(v *heap.Value) { v.B.Neg = false },
		func(v *heap.Value) { v.B.Mag = v.B.Mag[:1] }, func(v *heap.Value) { v.B.Mag = []uint32{1, 3} }, func(v *heap.Value) { v.B.Mag = []uint32{1, 2, 0} },
		func(v *heap.Value) { v.S = v.S[:1] }, func(v *heap.Value) { v.S = key("ac") }, func(v *heap.Value) { v.S = key("aba") }, func(v *heap.Value) { v.Ref = 5 },
	} {
		b := a
		change(&b)
		if heap.Same(a, b) != (i == 0) || heap.Same(b, a) != (i == 0) {
			t.Errorf("case %d: %v", i, i != 0)
		}
	}
	nan := heap.Value{Kind: 3, N: api.Num{Kind: api.NNaN}}
	if !heap.Same(nan, nan) || heap.Same(whole(0), heap.Value{Kind: 3, N: api.Num{Kind: api.NNegZero}}) {
		t.Error("NaN is the same field by field, and the zeros are not")
	}
}

func TestP9_1_New(t *testing.T) {
	for _, c := range []struct{ room, want int }{{0, 0}, {1, 1}, {2, 2}, {77, 77}, {4095, 4095}, {4096, 4096}, {4097, 4096}, {1 << 32, 4096}, {1<<63 - 1, 4096}, {-1, 0}, {-4096, 0}, {-1 << 63, 0}} {
		h := heap.New(c.room)
		if h.Room() != c.want || h.Len() != 0 {
			t.Errorf("New(%d) has room %d, and %d cells", c.room, h.Room(), h.Len())
		}
		if _, ok := h.Cell(0); ok {
			t.Errorf("New(%d) has a cell", c.room)
		}
		for n := range c.want {
			if ref, ok := h.Make(heap.Cell{Node: n}); ref != n || !ok || h.Len() != n+1 || h.Room() != c.want {
				t.Fatalf("New(%d): cell %d has the number %d, %v", c.room, n, ref, ok)
			}
		}
		for range 2 {
			if ref, ok := h.Make(heap.Cell{Node: 5, Bytes: []byte{1}}); ref != 0 || ok || h.Len() != c.want {
				t.Errorf("New(%d): no room for %d", c.room, ref)
			}
		}
		for n := range c.want {
			if one, ok := h.Cell(n); one.Node != n || !ok {
				t.Errorf("New(%d): cell %d is %v", c.room, n, shown(one))
			}
		}
	}
}

// fullCell has something in each field.
func fullCell() heap.Cell {
	return heap.Cell{Kind: heap.TypedArray, Proto: 2,
		Props: []heap.Prop{{Key: key("k"), V: str("v")}, {Key: nil, V: bigInt(true, 1, 2)}, {Key: key("10"), V: heap.Value{Kind: 77, S: key("no"), B: api.Big{Mag: []uint32{0}}, Ref: -5}}},
		Slots: []heap.Slot{{Name: "x", V: str("w"), Ready: true}, {Name: "", V: bigInt(false, 3), Fixed: true}, {Name: "é\xff"}},
		Name:  "RangeError", Node: 3, Scope: 4, This: heap.Value{Kind: 5, S: key("this"), B: api.Big{Mag: []uint32{9}}}, Elem: 5, Buf: 6, From: 7, Len: 8, Bytes: []byte{1, 2, 3}}
}

// Any cell can be made, and is the same when it is asked for.
func TestP9_1_MakeAndCell(t *testing.T) {
	cells := []heap.Cell{{}, fullCell(), {Kind: -1, Proto: -1 << 63, Scope: 1<<63 - 1, Len: -1}, {Kind: 99, Props: []heap.Prop{}, Slots: []heap.Slot{}, Bytes: []byte{}}, withKeys("a", "a", "1", "a"), withSlots(-1, "b", "b", "c")}
	full := reflect.TypeOf(heap.Cell{})
	for i := range full.NumField() {
		one := heap.Cell{}
		reflect.ValueOf(&one).Elem().Field(i).Set(reflect.ValueOf(fullCell()).Field(i))
		cells = append(cells, one)
	}
	h := holding(t, cells...)
	for ref, want := range cells {
		if c, ok := h.Cell(ref); shown(c) != shown(want) || !ok {
			t.Errorf("cell %d: %v; want %v", ref, shown(c), shown(want))
		}
	}
	for _, ref := range strangers(len(cells)) {
		if c, ok := h.Cell(ref); ok || !reflect.DeepEqual(c, heap.Cell{}) {
			t.Errorf("there is no cell %d: %v", ref, shown(c))
		}
	}
}

func TestP9_5_Write(t *testing.T) {
	for _, c := range []struct {
		bytes string
		at    int
		b     string
		want  string
		ok    bool
	}{
		{"abcd", 0, "", "abcd", true}, {"abcd", 0, "x", "xbcd", true}, {"abcd", 1, "xy", "axyd", true}, {"abcd", 0, "wxyz", "wxyz", true}, {"abcd", 3, "x", "abcx", true}, {"abcd", 2, "xy", "abxy", true}, {"abcd", 4, "", "abcd", true},
		{"abcd", 0, "vwxyz", "abcd", false}, {"abcd", 1, "wxyz", "abcd", false}, {"abcd", 3, "xy", "abcd", false}, {"abcd", 4, "x", "abcd", false}, {"abcd", 5, "", "abcd", false}, {"abcd", 5, "x", "abcd", false},
		{"abcd", -1, "", "abcd", false}, {"abcd", -1, "x", "abcd", false}, {"abcd", -1, "xyz", "abcd", false}, {"abcd", -4, "wxyz", "abcd", false},
		{"abcd", 1<<63 - 1, "", "abcd", false}, {"abcd", 1<<63 - 1, "xy", "abcd", false}, {"abcd", -1 << 63, "", "abcd", false}, {"abcd", -1 << 63, "xy", "abcd", false}, {"abcd", 1 << 32, "x", "abcd", false},
		{"", 0, "", "", true}, {"", 0, "x", "", false}, {"", 1, "", "", false}, {"", -1, "", "", false},
	} {
		h := holding(t, heap.Cell{Bytes: []byte("other")}, heap.Cell{Kind: heap.Buffer, Bytes: []byte(c.bytes), Name: "n"}, heap.Cell{Bytes: []byte("last")})
		if ok := h.Write(1, c.at, []byte(c.b)); ok != c.ok {
			t.Errorf("Write of %q at %d of %q: %v", c.b, c.at, c.bytes, ok)
		}
		for ref, want := range []string{"other", c.want, "last"} {
			if one, _ := h.Cell(ref); string(one.Bytes) != want {
				t.Errorf("Write of %q at %d of %q leaves %q in cell %d", c.b, c.at, c.bytes, one.Bytes, ref)
			}
		}
		if one, _ := h.Cell(1); one.Kind != heap.Buffer || one.Name != "n" {
			t.Errorf("Write changes more than the bytes: %v", shown(one))
		}
	}
	h := holding(t, heap.Cell{Bytes: []byte("ab")})
	for _, ref := range strangers(1) {
		if h.Write(ref, 0, nil) || h.Write(ref, 0, []byte("x")) {
			t.Errorf("Write to the cell %d that is none", ref)
		}
	}
}

func state(h *heap.Heap) string {
	list := []string{fmt.Sprint(h.Room(), " ", h.Len())}
	for ref := range h.Len() {
		c, _ := h.Cell(ref)
		list = append(list, shown(c))
	}
	return fmt.Sprint(list)
}

// changes are the calls that change a heap whose cell 0 is fullCell.
func changes() []func(*heap.Heap) bool {
	return []func(*heap.Heap) bool{
		func(h *heap.Heap) bool { _, ok := h.Make(fullCell()); return ok },
		func(h *heap.Heap) bool { return h.Put(0, key("new"), whole(1)) },
		func(h *heap.Heap) bool { return h.Put(0, key("k"), whole(1)) },
		func(h *heap.Heap) bool { _, ok := h.Drop(0); return ok },
		func(h *heap.Heap) bool { h.Drop(0); return h.Put(0, key("q"), whole(3)) },
		func(h *heap.Heap) bool { return h.Declare(0, "new", whole(1), true, true) },
		func(h *heap.Heap) bool { return h.Give(0, "x", whole(1), false) },
		func(h *heap.Heap) bool { return h.Write(0, 1, []byte{7}) },
	}
}

func TestP9_5_Copy(t *testing.T) {
	for i, change := range changes() {
		for _, twice := range []bool{false, true} {
			h := heap.New(9)
			made(t, h, fullCell())
			was, twin := state(h), h.Copy()
			if twice {
				twin = twin.Copy()
			}
			if state(twin) != was || keysOf(twin, 0) != keysOf(h, 0) {
				t.Errorf("a copy is %v; want %v", state(twin), was)
			}
			if !change(h) || state(h) == was || state(twin) != was {
				t.Errorf("change %d of a heap changes its copy", i)
			}
			now := state(h)
			if !change(twin) || state(twin) != now || state(h) != now {
				t.Errorf("change %d of a copy changes the heap, or is another one", i)
			}
		}
	}
	// What is found by name is found in a copy.
	h := holding(t, withKeys("a", "b", "a"), withSlots(-1, "x", "y", "x"))
	twin := h.Copy()
	v, _ := twin.Own(0, key("a"))
	s, ref, ok := twin.Look(1, "x")
	if !heap.Same(v, whole(0)) || !heap.Same(s.V, whole(0)) || ref != 1 || !ok {
		t.Errorf("in a copy, a is %v and x is %v", shown(v), shown(s))
	}
	if _, ok := h.Copy().Make(heap.Cell{}); ok || h.Copy().Room() != 2 {
		t.Error("a copy has more room")
	}
	if empty := heap.New(3).Copy(); empty.Room() != 3 || empty.Len() != 0 {
		t.Errorf("a copy of an empty heap: %v", state(empty))
	}
}
