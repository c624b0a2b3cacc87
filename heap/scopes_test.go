package heap_test

import (
	"math"
	"strconv"
	"testing"

	"rendezvous/api"
	"rendezvous/heap"
)

func checkLook(t *testing.T, h *heap.Heap, scope int, name string, want heap.Slot, ref int) {
	t.Helper()
	if s, at, ok := h.Look(scope, name); shown(s) != shown(want) || at != ref || ok != (ref != -1) {
		t.Errorf("Look(%d, %q) = %v, %d, %v; want %v, %d", scope, name, shown(s), at, ok, shown(want), ref)
	}
}

func slotsOf(h *heap.Heap, ref int) string {
	c, _ := h.Cell(ref)
	return shown(c.Slots)
}

func TestP9_4_Declare(t *testing.T) {
	h := holding(t, heap.Cell{Kind: heap.Scope, Scope: heap.Outside}, heap.Cell{Kind: heap.Plain}, withSlots(-1, "there"))
	want := []heap.Slot{}
	for i, name := range []string{"x", "y", "a", "", "é", "\xff", "X", "xx", "x ", "there"} {
		s := heap.Slot{Name: name, V: str("v" + name), Ready: i&1 > 0, Fixed: i&2 > 0}
		want = append(want, s)
		// A cell of any kind takes it, and no other one gets it.
		for ref := range 2 {
			if h.Give(ref, name, whole(9), true) {
				t.Errorf("%q is in cell %d before it is declared there", name, ref)
			}
			if !h.Declare(ref, name, s.V, s.Ready, s.Fixed) || slotsOf(h, ref) != shown(want) {
				t.Errorf("Declare of %q in cell %d: %s", name, ref, slotsOf(h, ref))
			}
			checkLook(t, h, ref, name, s, ref)
			for _, ready := range []bool{false, true} {
				if h.Declare(ref, name, whole(9), ready, !ready) || slotsOf(h, ref) != shown(want) {
					t.Errorf("%q is declared twice: %s", name, slotsOf(h, ref))
				}
			}
		}
	}
	was := state(h)
	for _, ref := range strangers(3) {
		if h.Declare(ref, "q", whole(1), true, true) {
			t.Errorf("Declare in the cell %d that is none", ref)
		}
	}
	if state(h) != was || slotsOf(h, 2) != shown(withSlots(-1, "there").Slots) {
		t.Errorf("other cells changed: %s", slotsOf(h, 2))
	}
	if inOrder(h, 0) != "" {
		t.Errorf("names are no keys: %s", inOrder(h, 0))
	}
}

func TestP9_4_DeclareWhatWasMade(t *testing.T) {
	h := holding(t, withSlots(-1, "a", "b", "a"))
	if h.Declare(0, "a", whole(7), true, true) || h.Declare(0, "b", whole(7), true, true) || !h.Declare(0, "c", whole(7), true, true) {
		t.Error("a name that a cell was made with is declared")
	}
	// Of two with one name, the first one counts.
	checkLook(t, h, 0, "a", heap.Slot{Name: "a", V: whole(0), Ready: true, Fixed: true}, 0)
	checkLook(t, h, 0, "b", heap.Slot{Name: "b", V: whole(1)}, 0)
	checkLook(t, h, 0, "c", heap.Slot{Name: "c", V: whole(7), Ready: true, Fixed: true}, 0)
	if !h.Give(0, "a", whole(8), false) {
		t.Error("Give")
	}
	c, _ := h.Cell(0)
	if s := c.Slots; !heap.Same(s[0].V, whole(8)) || s[0].Ready || !s[0].Fixed || !heap.Same(s[2].V, whole(2)) || !s[2].Ready || len(s) != 4 {
		t.Errorf("after Give: %v", shown(s))
	}
}

func TestP9_4_Look(t *testing.T) {
	h := holding(t, withSlots(-1, "x", "y", "z"), withSlots(0, "y"), withSlots(1, "w", "z"), withSlots(1), withSlots(-9, "v"), withSlots(4, "x"), withSlots(math.MinInt, "u"))
	x, y, z := heap.Slot{Name: "x", V: whole(0), Ready: true, Fixed: true}, heap.Slot{Name: "y", V: whole(1)}, heap.Slot{Name: "z", V: whole(2), Ready: true}
	checkLook(t, h, 0, "x", x, 0)
	checkLook(t, h, 0, "y", y, 0)
	checkLook(t, h, 0, "z", z, 0)
	checkLook(t, h, 1, "x", x, 0)
	checkLook(t, h, 1, "y", heap.Slot{Name: "y", V: whole(0), Ready: true, Fixed: true}, 1)
	checkLook(t, h, 1, "z", z, 0)
	checkLook(t, h, 2, "z", heap.Slot{Name: "z", V: whole(1)}, 2)
	checkLook(t, h, 2, "y", heap.Slot{Name: "y", V: whole(0), Ready: true, Fixed: true}, 1)
	checkLook(t, h, 3, "z", z, 0)
	checkLook(t, h, 5, "v", heap.Slot{Name: "v", V: whole(0), Ready: true, Fixed: true}, 4)
	checkLook(t, h, 5, "x", x, 5)
	for scope, names := range [][]string{{"w", "v", "", "X"}, {"w", "v"}, {"v", "u"}, {"w"}, {"x", "y"}, {"y", "w"}, {"x", "v"}} {
		for _, name := range names {
			checkLook(t, h, scope, name, heap.Slot{}, -1)
		}
	}
	for _, ref := range strangers(7) {
		checkLook(t, h, ref, "x", heap.Slot{}, -1)
		checkLook(t, heap.New(3), ref, "x", heap.Slot{}, -1)
	}
	checkLook(t, heap.New(3), 0, "x", heap.Slot{}, -1)
}

// Look goes along the Scopes of cells of any kind, and Find along the Protos.
func TestP9_4_ScopesAreNoProtos(t *testing.T) {
	c := withKeys("a")
	c.Slots = withSlots(-1, "a", "x").Slots
	c.Scope = heap.Outside
	h := holding(t, c, heap.Cell{Kind: heap.Function, Proto: heap.Root, Scope: 0}, heap.Cell{Proto: 0, Scope: -1}, heap.Cell{Proto: 1, Scope: 2})
	checkLook(t, h, 1, "x", heap.Slot{Name: "x", V: whole(1)}, 0)
	checkFind(t, h, 1, "a", heap.Value{}, -1, false)
	checkLook(t, h, 2, "x", heap.Slot{}, -1)
	checkFind(t, h, 2, "a", whole(0), 0, true)
	checkFind(t, h, 2, "x", heap.Value{}, -1, false)
	checkLook(t, h, 3, "x", heap.Slot{}, -1)
	checkFind(t, h, 3, "a", heap.Value{}, -1, false)
}

// Scopes that are no cells, and those that lead round.
func TestP9_4_LookWithoutAnEnd(t *testing.T) {
	h := holding(t, withSlots(0, "a"), withSlots(2, "b"), withSlots(3, "c"), withSlots(1, "d"), withSlots(3, "e"), withSlots(99, "f"), withSlots(math.MaxInt, "g"), withSlots(8, "h"))
	first := func(name string) heap.Slot { return heap.Slot{Name: name, V: whole(0), Ready: true, Fixed: true} }
	for scope, found := range []map[string]int{{"a": 0}, {"b": 1, "c": 2, "d": 3}, {"b": 1, "c": 2, "d": 3}, {"b": 1, "c": 2, "d": 3}, {"b": 1, "c": 2, "d": 3, "e": 4}, {"f": 5}, {"g": 6}, {"h": 7}} {
		for _, name := range []string{"a", "b", "c", "d", "e", "f", "g", "h", "i"} {
			if ref, ok := found[name]; ok {
				checkLook(t, h, scope, name, first(name), ref)
			} else {
				checkLook(t, h, scope, name, heap.Slot{}, -1)
			}
		}
	}
	later := heap.New(2)
	made(t, later, heap.Cell{Scope: 1})
	checkLook(t, later, 0, "a", heap.Slot{}, -1)
	made(t, later, withSlots(-1, "a"))
	checkLook(t, later, 0, "a", first("a"), 1)
}

func TestP9_4_LookThroughAll(t *testing.T) {
	for _, n := range []int{1, 2, 3, 100, api.MaxHeap} {
		for _, end := range []int{-1, -2, n, 0, n - 1} {
			h := heap.New(n)
			for ref := range n - 1 {
				made(t, h, heap.Cell{Scope: ref + 1})
			}
			made(t, h, withSlots(end, "a"))
			checkLook(t, h, 0, "a", heap.Slot{Name: "a", V: whole(0), Ready: true, Fixed: true}, n-1)
			checkLook(t, h, 0, "b", heap.Slot{}, -1)
		}
	}
}

func TestP9_4_Give(t *testing.T) {
	for _, fixed := range []bool{false, true} {
		for _, was := range []bool{false, true} {
			for _, ready := range []bool{false, true} {
				h := holding(t, withSlots(-1, "outer"), withSlots(0, "a", "b"))
				h.Declare(1, "x", whole(5), was, fixed)
				h.Declare(1, "y", whole(6), was, fixed)
				before := withSlots(0, "a", "b").Slots
				if !h.Give(1, "x", str("new"), ready) {
					t.Error("Give of a name that is there")
				}
				want := append(before, heap.Slot{Name: "x", V: str("new"), Ready: ready, Fixed: fixed}, heap.Slot{Name: "y", V: whole(6), Ready: was, Fixed: fixed})
				if slotsOf(h, 1) != shown(want) {
					t.Errorf("after Give: %s; want %s", slotsOf(h, 1), shown(want))
				}
				// Names of scopes around are not of the cell itself.
				if h.Give(1, "outer", whole(1), ready) || h.Give(1, "z", whole(1), ready) || h.Give(1, "", whole(1), ready) || h.Give(0, "x", whole(1), ready) {
					t.Error("Give of a name that is not there")
				}
				for _, ref := range strangers(2) {
					if h.Give(ref, "x", whole(1), ready) {
						t.Errorf("Give in the cell %d that is none", ref)
					}
				}
				if slotsOf(h, 1) != shown(want) || slotsOf(h, 0) != shown(withSlots(-1, "outer").Slots) {
					t.Error("a Give that fails changes something")
				}
				checkLook(t, h, 1, "x", want[2], 1)
			}
		}
	}
}

func TestP9_4_ManySlots(t *testing.T) {
	const many = 30000
	h := holding(t, heap.Cell{Kind: heap.Scope, Scope: heap.Outside}, heap.Cell{Kind: heap.Scope})
	for i := range many {
		if name := strconv.Itoa(i); !h.Declare(0, name, whole(i), true, false) || h.Declare(0, name, whole(-1), true, false) || !h.Give(0, name, whole(2*i), true) {
			t.Fatalf("Declare of name %d", i)
		}
	}
	for i := range many {
		if s, ref, ok := h.Look(1, strconv.Itoa(i)); s.V.N.N != 2*i || ref != 0 || !ok {
			t.Fatalf("name %d is %v", i, shown(s))
		}
	}
}
