package model_test

import (
	"math/rand"
	"testing"

	"rendezvous/event"
	"rendezvous/model"
)

// sampleCase is a log and what a check finds in it.
type sampleCase struct {
	name string
	l    event.Log
	want int
}

func checkCases(t *testing.T, check func(event.Log) int, cases []sampleCase) {
	t.Helper()
	for _, c := range cases {
		if !event.May(c.l) {
			t.Errorf("%s: the log is not valid", c.name)
		}
		if got := check(c.l); got != c.want {
			t.Errorf("%s: %d, want %d", c.name, got, c.want)
		}
	}
}

func TestP16_1_Examples(t *testing.T) {
	one, nothing := []byte{1}, []byte{0}
	checkCases(t, model.Coherent, []sampleCase{
		{"no events", event.Log{}, -1},
		{"a sample", sample(), -1},
		{"the initial zero after a Store", logOf(store(0, 0, 0, 1), load(0, 0, 0, nothing, -1)), 1},
		{"the initial zero after that of another agent", logOf(store(0, 0, 0, 1), load(1, 0, 0, nothing, -1)), -1},
		{"the initial zero ahead of a Store", logOf(load(0, 0, 0, nothing, -1), store(0, 0, 0, 1)), -1},
		{"the initial zero after a Store of zero", logOf(store(0, 0, 0, 0), load(0, 0, 0, nothing, -1)), 1},
		{"the last Store", logOf(store(0, 0, 0, 2), store(0, 0, 0, 1), load(0, 0, 0, one, 1)), -1},
		{"the last Store but one", logOf(store(0, 0, 0, 1), store(0, 0, 0, 2), load(0, 0, 0, one, 0)), 2},
		{"a Store of the same byte in between", logOf(store(0, 0, 0, 1), store(0, 0, 0, 1), load(0, 0, 0, one, 0)), 2},
		{"a Store ahead of the writer", logOf(store(0, 0, 0, 2), store(0, 0, 0, 1), store(1, 0, 0, 3), load(0, 0, 0, one, 1)), -1},
		{"a later Store", logOf(store(0, 0, 0, 1), load(0, 0, 0, one, 0), store(0, 0, 0, 2)), -1},
		{"a Load in between", logOf(store(0, 0, 0, 1), load(0, 0, 0, one, 0), load(0, 0, 0, one, 0)), -1},
		{"a Sync in between", logOf(store(0, 0, 0, 1), sync(0), load(0, 0, 0, one, 0)), -1},
		{"a Change in between", logOf(store(0, 0, 0, 1), change(0, 0, 0, one, []byte{2}, 0), load(0, 0, 0, one, 0)), 2},
		{"from a Change", logOf(change(0, 0, 0, nothing, one, -1), load(0, 0, 0, one, 0)), -1},
		{"a Change that reads what it overwrites", logOf(store(0, 0, 0, 1), change(0, 0, 0, one, one, 0)), -1},
		{"a Change that reads too early", logOf(store(0, 0, 0, 1), store(0, 0, 0, 2), change(0, 0, 0, one, one, 0)), 2},
		{"a Change of the initial zero", logOf(change(0, 0, 0, nothing, one, -1)), -1},
		{"two Changes of the initial zero", logOf(change(0, 0, 0, nothing, one, -1), change(0, 0, 0, nothing, one, -1)), 1},
	})
}

// The event in between has to come after the one and before the other, by which way ever.
func TestP16_1_Ways(t *testing.T) {
	one, nothing := []byte{1}, []byte{0}
	three := func(a, b, c int, pairs ...[2]int) event.Log {
		return with(logOf(store(a, 0, 0, 1), store(b, 0, 0, 2), load(c, 0, 0, one, 0)), pairs...)
	}
	checkCases(t, model.Coherent, []sampleCase{
		{"three agents", three(0, 1, 2), -1},
		{"only V before R", three(0, 1, 1), -1},
		{"only W before V", three(0, 0, 1), -1},
		{"only W before R", three(0, 1, 0), -1},
		{"only V before R, by a pair", three(0, 1, 2, [2]int{1, 2}), -1},
		{"only W before V, by a pair", three(0, 1, 2, [2]int{0, 1}), -1},
		{"only W before R, by a pair", three(0, 1, 2, [2]int{0, 2}), -1},
		{"W before R and V before R", three(0, 1, 2, [2]int{0, 2}, [2]int{1, 2}), -1},
		{"W before V and W before R", three(0, 1, 2, [2]int{0, 1}, [2]int{0, 2}), -1},
		{"both by pairs", three(0, 1, 2, [2]int{0, 1}, [2]int{1, 2}), 2},
		{"a pair and an agent", three(0, 1, 1, [2]int{0, 1}), 2},
		{"an agent and a pair", three(0, 0, 1, [2]int{1, 2}), 2},
		{"the initial zero, by a pair", with(logOf(store(0, 0, 0, 1), load(1, 0, 0, nothing, -1)), [2]int{0, 1}), 1},
		{"the initial zero, by two pairs", with(logOf(store(0, 0, 0, 1), sync(2), load(1, 0, 0, nothing, -1)), [2]int{0, 1}, [2]int{1, 2}), 2},
		{"by what synchronizes", logOf(store(0, 0, 0, 1), seq(store(0, 0, 4, 9)), seq(load(1, 0, 4, []byte{9}, 1)), load(1, 0, 0, nothing, -1)), 3},
		{"by what is read plainly", logOf(store(0, 0, 0, 1), seq(store(0, 0, 4, 9)), load(1, 0, 4, []byte{9}, 1), load(1, 0, 0, nothing, -1)), -1},
		{"by the events themselves", logOf(seq(store(0, 0, 0, 1)), change(1, 0, 0, one, []byte{2}, 0), seq(load(2, 0, 0, []byte{2}, 1)), load(2, 0, 0, one, 0)), 3},
	})
}

// Only the bytes that are read count, each by itself.
func TestP16_1_Bytes(t *testing.T) {
	checkCases(t, model.Coherent, []sampleCase{
		{"a Store behind the byte", logOf(store(0, 0, 1, 1), store(0, 0, 2, 2), load(0, 0, 1, []byte{1}, 0)), -1},
		{"a Store ahead of the byte", logOf(store(0, 0, 1, 1), store(0, 0, 0, 2), load(0, 0, 1, []byte{1}, 0)), -1},
		{"a Store that ends at the byte", logOf(store(0, 0, 2, 1), store(0, 0, 0, 2, 2, 2), load(0, 0, 2, []byte{1}, 0)), 2},
		{"a Store that ends ahead of it", logOf(store(0, 0, 3, 1), store(0, 0, 0, 2, 2, 2), load(0, 0, 3, []byte{1}, 0)), -1},
		{"a Store that begins at the byte", logOf(store(0, 0, 2, 1), store(0, 0, 2, 2, 2, 2), load(0, 0, 2, []byte{1}, 0)), 2},
		{"a Store in another block", logOf(store(0, 0, 1, 1), store(0, 1, 1, 2), load(0, 0, 1, []byte{1}, 0)), -1},
		{"a Store in a block below", logOf(store(0, 7, 1, 1), store(0, 6, 1, 2), load(0, 7, 1, []byte{1}, 0)), -1},
		{"a Store in that block", logOf(store(0, 7, 1, 1), store(0, 7, 1, 2), load(0, 7, 1, []byte{1}, 0)), 2},
		{"each byte from its last writer", logOf(store(0, 0, 0, 1, 1), store(0, 0, 1, 2, 2), load(0, 0, 0, []byte{1, 2, 2, 0}, 0, 1, 1, -1)), -1},
		{"the first byte too early", logOf(store(0, 0, 0, 1, 1), store(0, 0, 0, 2), load(0, 0, 0, []byte{1, 1}, 0, 0)), 2},
		{"the last byte too early", logOf(store(0, 0, 0, 1, 1), store(0, 0, 1, 2), load(0, 0, 0, []byte{1, 1}, 0, 0)), 2},
		{"the last of eight too early", logOf(store(0, 0, 0, 1, 1, 1, 1, 1, 1, 1, 1), store(0, 0, 7, 2), load(0, 0, 0, []byte{1, 1, 1, 1, 1, 1, 1, 1}, 0, 0, 0, 0, 0, 0, 0, 0)), 2},
		{"the last byte of the last block", logOf(store(0, 15, 255, 1), store(0, 15, 255, 1), load(0, 15, 255, []byte{1}, 0)), 2},
		{"a zero among others", logOf(store(0, 0, 0, 1), store(1, 0, 1, 1), load(1, 0, 0, []byte{1, 0}, 0, -1)), 2},
	})
}

// The first of several events is returned.
func TestP16_1_First(t *testing.T) {
	bad := load(0, 0, 0, []byte{1}, 0)
	checkCases(t, model.Coherent, []sampleCase{
		{"three", logOf(store(0, 0, 0, 1), bad, store(0, 0, 0, 2), sync(0), bad, bad, bad), 4},
		{"two agents", logOf(store(0, 0, 0, 1), store(1, 0, 0, 2), load(1, 0, 0, []byte{0}, -1), load(0, 0, 0, []byte{0}, -1)), 2},
		{"event 0 never", logOf(load(0, 0, 0, []byte{0}, -1), store(0, 0, 0, 1), load(0, 0, 0, []byte{0}, -1)), 2},
	})
}

func TestP16_1_ManyLogs(t *testing.T) {
	r, found, clean, initial := rand.New(rand.NewSource(1)), 0, 0, 0
	for range 10000 {
		l := randomLog(r, r.Intn(14))
		want := coherentByTheBook(l)
		if got := model.Coherent(l); got != want {
			t.Fatalf("Coherent(%v) = %d, want %d", l, got, want)
		}
		switch {
		case want == -1:
			clean++
		case l.Events[want].From[0] == -1:
			initial++
		default:
			found++
		}
	}
	if clean < 1000 || found < 1000 || initial < 100 {
		t.Errorf("%d logs violate nothing, %d and %d do", clean, found, initial)
	}
}
