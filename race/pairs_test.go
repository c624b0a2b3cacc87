package race_test

import (
	"math/rand"
	"slices"
	"testing"

	"rendezvous/event"
	"rendezvous/race"
)

// What two events may have between them.
const (
	nothing = iota
	conflict
	data
)

type sampleCase struct {
	name string
	l    event.Log
	a, b int
	want int
}

// checkCases asks for two events, both ways round, by all calls.
func checkCases(t *testing.T, cases []sampleCase) {
	t.Helper()
	for _, c := range cases {
		if !event.May(c.l) {
			t.Fatalf("%s: the log is not valid", c.name)
		}
		for _, p := range [][2]int{{c.a, c.b}, {c.b, c.a}} {
			if got := race.Conflict(c.l, p[0], p[1]); got != (c.want >= conflict) {
				t.Errorf("%s: Conflict(%d, %d) = %v", c.name, p[0], p[1], got)
			}
			if got := race.Data(c.l, p[0], p[1]); got != (c.want == data) {
				t.Errorf("%s: Data(%d, %d) = %v", c.name, p[0], p[1], got)
			}
		}
		pair := [2]int{min(c.a, c.b), max(c.a, c.b)}
		if got := race.Conflicts(c.l); slices.Contains(got, pair) != (c.want >= conflict) {
			t.Errorf("%s: Conflicts = %v", c.name, got)
		}
		if got := race.Datas(c.l); slices.Contains(got, pair) != (c.want == data) {
			t.Errorf("%s: Datas = %v", c.name, got)
		}
	}
}

func TestP17_1_Examples(t *testing.T) {
	zero, one := []byte{0}, []byte{1}
	checkCases(t, []sampleCase{
		{"two Stores", logOf(store(0, 0, 0, 1), store(1, 0, 0, 2)), 0, 1, data},
		{"a Load of -1 after a Store", logOf(store(0, 0, 0, 1), load(1, 0, 0, zero, -1)), 0, 1, conflict},
		{"a Load of -1 ahead of a Store", logOf(load(1, 0, 0, zero, -1), store(0, 0, 0, 1)), 0, 1, conflict},
		{"a Load from the Store", logOf(store(0, 0, 0, 1), load(1, 0, 0, one, 0)), 0, 1, data},
		{"a Load from another Store", logOf(store(0, 0, 0, 1), store(1, 0, 0, 1), load(2, 0, 0, one, 1)), 0, 2, conflict},
		{"two Loads", logOf(load(0, 0, 0, zero, -1), load(1, 0, 0, zero, -1)), 0, 1, nothing},
		{"two Loads from one Store", logOf(store(0, 0, 0, 1), load(1, 0, 0, one, 0), load(2, 0, 0, one, 0)), 1, 2, nothing},
		{"two Syncs", logOf(sync(0), sync(1)), 0, 1, nothing},
		{"a Sync and a Store", logOf(sync(0), store(1, 0, 0, 1)), 0, 1, nothing},
		{"one event", logOf(store(0, 0, 0, 1)), 0, 0, nothing},
		{"a Change of -1 after a Store", logOf(store(0, 0, 0, 1), change(1, 0, 0, zero, one, -1)), 0, 1, data},
		{"a Change from a Store", logOf(store(0, 0, 0, 1), change(1, 0, 0, one, one, 0)), 0, 1, data},
		{"a Change and a Load of -1", logOf(change(0, 0, 0, zero, one, -1), load(1, 0, 0, zero, -1)), 0, 1, conflict},
		{"a Change and a Load from it", logOf(change(0, 0, 0, zero, one, -1), load(1, 0, 0, one, 0)), 0, 1, data},
		{"two Changes of different sizes", logOf(change(0, 0, 0, zero, one, -1), change(1, 0, 0, []byte{0, 0}, []byte{1, 1}, -1, -1)), 0, 1, data},
	})
}

// What one event reads from another one counts, be it one byte of many.
func TestP17_1_DataByFrom(t *testing.T) {
	wide := store(0, 0, 0, 1, 2, 3, 4)
	other := store(1, 0, 2, 7, 8)
	checkCases(t, []sampleCase{
		{"the first byte", logOf(wide, load(2, 0, 0, []byte{1, 0}, 0, -1)), 0, 1, data},
		{"the last byte", logOf(wide, load(2, 0, 0, []byte{0, 0, 0, 4}, -1, -1, -1, 0)), 0, 1, data},
		{"a byte between", logOf(wide, other, load(2, 0, 0, []byte{0, 2, 7, 0}, -1, 0, 1, -1)), 0, 2, data},
		{"a byte between, of the other one", logOf(wide, other, load(2, 0, 0, []byte{0, 2, 7, 0}, -1, 0, 1, -1)), 1, 2, data},
		{"all of the other one", logOf(wide, other, load(2, 0, 2, []byte{7, 8}, 1, 1)), 0, 2, conflict},
		{"none of the other one", logOf(wide, other, load(2, 0, 2, []byte{3, 4}, 0, 0)), 1, 2, conflict},
		{"the same bytes as the Store's", logOf(wide, store(1, 0, 0, 1, 2, 3, 4), load(2, 0, 0, []byte{1, 2}, 1, 1)), 0, 2, conflict},
	})
}

func TestP17_1_Overlap(t *testing.T) {
	checkCases(t, []sampleCase{
		{"the last byte and the first", logOf(store(0, 0, 4, 1, 2), store(1, 0, 5, 1, 2)), 0, 1, data},
		{"the first byte and the last", logOf(store(0, 0, 5, 1, 2), store(1, 0, 4, 1, 2)), 0, 1, data},
		{"one behind the other", logOf(store(0, 0, 4, 1, 2), store(1, 0, 6, 1, 2)), 0, 1, nothing},
		{"one ahead of the other", logOf(store(0, 0, 6, 1, 2), store(1, 0, 4, 1, 2)), 0, 1, nothing},
		{"one within the other", logOf(store(0, 0, 0, 1, 2, 3, 4, 5, 6, 7, 8), store(1, 0, 3, 1)), 0, 1, data},
		{"one around the other", logOf(store(0, 0, 3, 1), store(1, 0, 0, 1, 2, 3, 4, 5, 6, 7, 8)), 0, 1, data},
		{"another block", logOf(store(0, 0, 4, 1), store(1, 1, 4, 1)), 0, 1, nothing},
		{"the last bytes of the last block", logOf(store(0, 15, 255, 1), store(63, 15, 248, 1, 2, 3, 4, 5, 6, 7, 8)), 0, 1, data},
		{"far from one another", logOf(store(0, 0, 0, 1), store(1, 0, 255, 1)), 0, 1, nothing},
	})
}

// Seq events that are Equal are no conflict; each of the two conditions is needed.
func TestP17_1_SeqAndEqual(t *testing.T) {
	a, b := store(0, 0, 4, 1, 2), store(1, 0, 4, 3, 4)
	zeros := []byte{0, 0}
	checkCases(t, []sampleCase{
		{"both", logOf(seq(a), seq(b)), 0, 1, nothing},
		{"the first is plain", logOf(a, seq(b)), 0, 1, data},
		{"the second is plain", logOf(seq(a), b), 0, 1, data},
		{"both are plain", logOf(a, b), 0, 1, data},
		{"NoTear instead of Seq", logOf(noTear(a), noTear(b)), 0, 1, data},
		{"the first is NoTear", logOf(noTear(a), seq(b)), 0, 1, data},
		{"both, and NoTear", logOf(seq(noTear(a)), seq(noTear(b))), 0, 1, nothing},
		{"a byte more", logOf(seq(a), seq(store(1, 0, 4, 3, 4, 5))), 0, 1, data},
		{"a byte less", logOf(seq(a), seq(store(1, 0, 4, 3))), 0, 1, data},
		{"a byte on", logOf(seq(a), seq(store(1, 0, 5, 3, 4))), 0, 1, data},
		{"a Load of -1", logOf(seq(a), seq(load(1, 0, 4, zeros, -1, -1))), 0, 1, nothing},
		{"a plain Load of -1", logOf(seq(a), load(1, 0, 4, zeros, -1, -1)), 0, 1, conflict},
		{"a Load from a part of it", logOf(seq(a), seq(load(1, 0, 4, []byte{1}, 0))), 0, 1, data},
		{"a Load of -1 of a part of it", logOf(seq(a), seq(load(1, 0, 4, []byte{0}, -1))), 0, 1, conflict},
		{"a Change", logOf(seq(a), change(1, 0, 4, zeros, zeros, -1, -1)), 0, 1, nothing},
		{"a Change, the Store is plain", logOf(a, change(1, 0, 4, zeros, zeros, -1, -1)), 0, 1, data},
		{"two Changes", logOf(change(0, 0, 4, zeros, zeros, -1, -1), change(1, 0, 4, zeros, zeros, -1, -1)), 0, 1, nothing},
		{"a Change ahead of a plain Load", logOf(change(0, 0, 4, zeros, zeros, -1, -1), load(1, 0, 4, zeros, 0, -1)), 0, 1, data},
	})
}

// Events of which one happens before the other are no conflict, whatever the way.
func TestP17_1_Before(t *testing.T) {
	one := []byte{1}
	a, b := store(0, 0, 4, 1), store(1, 0, 4, 2)
	flag := seq(store(0, 1, 0, 1))
	wait := func(from int) event.Event { return seq(load(1, 1, 0, one, from)) }
	checkCases(t, []sampleCase{
		{"one agent", logOf(a, store(0, 0, 4, 2)), 0, 1, nothing},
		{"one agent, another one between", logOf(a, sync(5), store(0, 0, 4, 2)), 0, 2, nothing},
		{"a pair", with(logOf(a, b), [2]int{0, 1}), 0, 1, nothing},
		{"a pair of others", with(logOf(a, b, sync(2)), [2]int{0, 2}, [2]int{1, 2}), 0, 1, data},
		{"a pair by Syncs", with(logOf(a, sync(0), sync(1), b), [2]int{1, 2}), 0, 3, nothing},
		{"a pair ahead of the Store", with(logOf(sync(0), a, sync(1), b), [2]int{0, 2}), 1, 3, data},
		{"a pair behind the Store", with(logOf(a, sync(0), b, sync(1)), [2]int{1, 3}), 0, 2, data},
		{"two pairs", with(logOf(a, sync(5), b), [2]int{0, 1}, [2]int{1, 2}), 0, 2, nothing},
		{"by a Seq Load", logOf(a, flag, wait(1), b), 0, 3, nothing},
		{"by a Seq Load, later", logOf(a, flag, wait(1), sync(1), b), 0, 4, nothing},
		{"the Store comes after the Seq Store", logOf(flag, a, wait(0), b), 1, 3, data},
		{"the Store comes ahead of the Seq Load", logOf(a, flag, b, wait(1)), 0, 2, data},
		{"by a plain Load", logOf(a, flag, load(1, 1, 0, one, 1), b), 0, 3, data},
		{"by a Load of another size", logOf(a, flag, seq(load(1, 1, 0, []byte{1, 0}, 1, -1)), b), 0, 3, data},
		{"by a Change", logOf(a, flag, change(1, 1, 0, one, one, 1), b), 0, 3, nothing},
		{"a Load from the Store, by a Seq Load", logOf(a, flag, wait(1), load(1, 0, 4, one, 0)), 0, 3, nothing},
		{"a Load of -1, by a Seq Load", logOf(a, flag, wait(1), load(1, 0, 4, []byte{0}, -1)), 0, 3, nothing},
		{"what a Load read is no order", logOf(a, load(1, 0, 4, one, 0), b), 0, 2, data},
	})
}

// A number that is none of an event's, or twice the same one, is none of a conflict.
func TestP17_1_NumbersOfNoEvent(t *testing.T) {
	for _, l := range []event.Log{{}, logOf(store(0, 0, 0, 1)), sample(), fullLog()} {
		conflicts, datas := race.Conflicts(l), race.Datas(l)
		for _, a := range edges() {
			for _, b := range edges() {
				pair := [2]int{min(a, b), max(a, b)}
				if got := race.Conflict(l, a, b); got != slices.Contains(conflicts, pair) {
					t.Errorf("%d events: Conflict(%d, %d) = %v", len(l.Events), a, b, got)
				}
				if got := race.Data(l, a, b); got != slices.Contains(datas, pair) {
					t.Errorf("%d events: Data(%d, %d) = %v", len(l.Events), a, b, got)
				}
			}
		}
	}
}

func TestP17_1_ManyLogs(t *testing.T) {
	r, counts := rand.New(rand.NewSource(1)), [3]int{}
	for range 2000 {
		l := randomLog(r, r.Intn(14))
		conflicts, datas := conflictsByTheBook(l), datasByTheBook(l)
		for a := -1; a <= len(l.Events); a++ {
			for b := -1; b <= len(l.Events); b++ {
				p := [2]int{a, b}
				if race.Conflict(l, a, b) != conflicts[p] || race.Data(l, a, b) != datas[p] {
					t.Fatalf("%v: Conflict(%d, %d) = %v, Data %v", l, a, b, race.Conflict(l, a, b), race.Data(l, a, b))
				}
				switch {
				case datas[p]:
					counts[data]++
				case conflicts[p]:
					counts[conflict]++
				default:
					counts[nothing]++
				}
			}
		}
	}
	if min(counts[nothing], counts[conflict], counts[data]) < 1000 {
		t.Errorf("too few pairs: %v", counts)
	}
}
