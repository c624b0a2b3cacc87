package event_test

import (
	"math"
	"math/rand"
	"testing"

	"rendezvous/event"
)

func TestP14_1_Kinds(t *testing.T) {
	if event.Sync != 0 || event.Load != 1 || event.Store != 2 || event.Change != 3 {
		t.Error("the kinds have other numbers")
	}
	for _, kind := range edges() {
		e := ranged(kind, 0, 0, 1)
		if event.Reads(e) != (kind == 1 || kind == 3) || event.Writes(e) != (kind == 2 || kind == 3) {
			t.Errorf("kind %d: reads %v, writes %v", kind, event.Reads(e), event.Writes(e))
		}
	}
	// Only the Kind counts, not what the lists have.
	e := event.Event{Read: []byte{1}, Wrote: []byte{1}, From: []int{-1}, Size: 1}
	if event.Reads(e) || event.Writes(e) {
		t.Error("a Sync with bytes")
	}
	if e.Kind = event.Load; !event.Reads(e) || event.Writes(e) {
		t.Error("a Load with bytes that it wrote")
	}
	if e.Kind = event.Store; event.Reads(e) || !event.Writes(e) {
		t.Error("a Store with bytes that it read")
	}
	if e = (event.Event{Kind: event.Change}); !event.Reads(e) || !event.Writes(e) {
		t.Error("a Change without bytes")
	}
}

func checkTwo(t *testing.T, a, b event.Event, equal, overlap bool) {
	t.Helper()
	for range 2 {
		if got := event.Equal(a, b); got != equal {
			t.Errorf("Equal(%v, %v) = %v", a, b, got)
		}
		if got := event.Overlap(a, b); got != overlap {
			t.Errorf("Overlap(%v, %v) = %v", a, b, got)
		}
		a, b = b, a
	}
}

func TestP14_1_Ranges(t *testing.T) {
	// The example of the chapter.
	checkTwo(t, store(0, 0, 0, 1, 2), load(1, 0, 1, []byte{2}, 0), false, true)
	for _, kinds := range [][2]int{{1, 1}, {1, 2}, {1, 3}, {2, 2}, {2, 3}, {3, 3}, {4, -1}, {math.MinInt, 1}} {
		a, b := kinds[0], kinds[1]
		checkTwo(t, ranged(a, 3, 4, 4), ranged(b, 3, 4, 4), true, true)
		checkTwo(t, ranged(a, 3, 4, 4), ranged(b, 4, 4, 4), false, false)
		checkTwo(t, ranged(a, 3, 4, 4), ranged(b, 3, 4, 3), false, true)
		checkTwo(t, ranged(a, 3, 4, 4), ranged(b, 3, 5, 4), false, true)
		checkTwo(t, ranged(a, 3, 4, 4), ranged(b, 3, 5, 2), false, true)
		checkTwo(t, ranged(a, 3, 4, 4), ranged(b, 3, 7, 1), false, true)
		checkTwo(t, ranged(a, 3, 4, 4), ranged(b, 3, 8, 1), false, false)
		checkTwo(t, ranged(a, 3, 4, 4), ranged(b, 3, 3, 1), false, false)
		checkTwo(t, ranged(a, 3, 4, 4), ranged(b, 3, 3, 2), false, true)
	}
	for _, kind := range []int{0, 1, 2, 3, 9} {
		checkTwo(t, ranged(event.Sync, 3, 4, 4), ranged(kind, 3, 4, 4), false, false)
		checkTwo(t, event.Event{}, ranged(kind, 0, 0, 0), false, false)
	}
}

// Equal asks for nothing but the ranges.
func TestP14_1_EqualOfOtherFields(t *testing.T) {
	a := ranged(event.Load, 1, 2, 1)
	b := event.Event{Agent: 7, Kind: event.Change, Seq: true, NoTear: true, Block: 1, At: 2, Size: 1, Read: []byte{1}, Wrote: []byte{2}, From: []int{5}}
	checkTwo(t, a, b, true, true)
}

func TestP14_1_RangesWithoutBytes(t *testing.T) {
	for _, size := range []int{0, -1, -8, math.MinInt} {
		checkTwo(t, ranged(1, 0, 2, size), ranged(2, 0, 2, size), true, false)
		checkTwo(t, ranged(1, 0, 2, size), ranged(2, 0, 0, 4), false, false)
		checkTwo(t, ranged(1, 0, 2, size), ranged(2, 0, 2, 4), false, false)
		checkTwo(t, ranged(1, 0, 5, size), ranged(2, 0, 2, 4), false, false)
	}
}

func TestP14_1_FarRanges(t *testing.T) {
	checkTwo(t, ranged(1, 0, math.MaxInt, 8), ranged(2, 0, math.MinInt, 8), false, false)
	checkTwo(t, ranged(1, 0, math.MaxInt-1, 2), ranged(2, 0, math.MaxInt, 2), false, true)
	checkTwo(t, ranged(1, 0, math.MaxInt-1, 1), ranged(2, 0, math.MaxInt, 1), false, false)
	checkTwo(t, ranged(1, 0, math.MaxInt, math.MaxInt), ranged(2, 0, math.MaxInt, math.MaxInt), true, true)
	checkTwo(t, ranged(1, 0, math.MinInt, math.MaxInt), ranged(2, 0, -2, 1), false, true)
	checkTwo(t, ranged(1, 0, math.MinInt, math.MaxInt), ranged(2, 0, -1, 1), false, false)
	checkTwo(t, ranged(1, math.MinInt, -5, 3), ranged(2, math.MinInt, -3, 3), false, true)
	checkTwo(t, ranged(1, math.MaxInt, -5, 3), ranged(2, math.MinInt, -3, 3), false, false)
}

func TestP14_1_AllSmallRanges(t *testing.T) {
	for at := -3; at <= 3; at++ {
		for size := -2; size <= 5; size++ {
			for other := -3; other <= 3; other++ {
				for length := -2; length <= 5; length++ {
					a, b := ranged(1, 0, at, size), ranged(2, 0, other, length)
					checkTwo(t, a, b, at == other && size == length, overlapByTheBook(a, b))
				}
			}
		}
	}
}

func TestP14_1_ManyRanges(t *testing.T) {
	r, count := rand.New(rand.NewSource(1)), 0
	for range 100000 {
		a, b := ranged(r.Intn(5)-1, r.Intn(2), pick(r), pick(r)), ranged(r.Intn(5)-1, r.Intn(2), pick(r), pick(r))
		checkTwo(t, a, b, a.Kind != 0 && b.Kind != 0 && a.Block == b.Block && a.At == b.At && a.Size == b.Size, overlapByTheBook(a, b))
		if overlapByTheBook(a, b) {
			count++
		}
	}
	if count < 1000 {
		t.Errorf("only %d of them overlap", count)
	}
}
