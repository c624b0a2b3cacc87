package agent_test

import (
	"slices"
	"testing"

	"rendezvous/api"
	"rendezvous/early"
	"rendezvous/eval"
)

// Wherever a program requests something, it goes on there.
func TestP13_3_Places(t *testing.T) {
	for _, place := range places() {
		one := accepted(t, program(place))
		most := 0
		for _, answers := range [][]eval.Ans{some(40), make([]eval.Ans, 12), bumpy(25)} {
			most = max(most, follow(t, place, one, wide(), answers))
		}
		if most < 2 {
			t.Errorf("%s: only %d requests", place, most)
		}
	}
}

// bumpy are n answers with all kinds of fields.
func bumpy(n int) []eval.Ans {
	list := some(n)
	for i := range list {
		switch i % 5 {
		case 0:
			list[i].Code = 1
		case 1:
			list[i] = eval.Ans{Word: 1<<64 - 1, Len: -1}
		case 2:
			list[i] = eval.Ans{Word: 1, Len: 16, Text: make([]uint16, api.MaxText+5)}
		case 3:
			list[i] = eval.Ans{Code: -7, Block: -3, Len: 1 << 60, Word: 2}
		}
	}
	return list
}

func TestP13_3_Dialogues(t *testing.T) {
	for _, d := range dialogues() {
		one := accepted(t, d.source)
		follow(t, d.source, one, wide(), d.answers)
		follow(t, d.source, one, wide(), bumpy(12))
	}
	for _, c := range endings() {
		follow(t, c.source, accepted(t, c.source), wide(), some(2))
	}
}

// With each limit that is not enough, an agent goes as far as chapter 12 says.
func TestP13_3_Limits(t *testing.T) {
	ends := [7]int{}
	for _, place := range places() {
		one := accepted(t, program(place))
		answers := some(6)
		sweep := func(from, to int, lim func(n int) eval.Limits) {
			for n := from; n < to; n++ {
				follow(t, place, one, lim(n), answers)
				_, e := eval.Next(one, lim(n), answers)
				ends[e.Kind]++
			}
		}
		sweep(0, 30, func(n int) eval.Limits { return eval.Limits{Heap: n, Depth: api.MaxDepth, Fuel: 2000} })
		sweep(1, 14, func(n int) eval.Limits { return eval.Limits{Heap: 100, Depth: n, Fuel: 2000} })
		sweep(0, 100, func(n int) eval.Limits { return eval.Limits{Heap: 100, Depth: 50, Fuel: n} })
	}
	if ends[eval.HeapFull] < 1000 || ends[eval.DepthFull] < 500 || ends[eval.FuelOut] < 5000 || ends[eval.Asks] < 1000 {
		t.Errorf("ends: %v", ends)
	}
}

func TestP13_3_RandomPrograms(t *testing.T) {
	ends, requests := [7]int{}, 0
	for seed := range int64(3500) {
		w := newWriter(seed)
		source := w.program()
		one, _, errno := early.Accept([]byte(source))
		if errno != api.OK {
			continue
		}
		lim := eval.Limits{Heap: 60 + w.Intn(100), Depth: 20 + w.Intn(80), Fuel: 300 + w.Intn(1000)}
		if w.Intn(4) == 0 {
			lim = eval.Limits{Heap: w.Intn(30), Depth: 1 + w.Intn(20), Fuel: w.Intn(200)}
		}
		answers := w.answers(20)
		n := follow(t, source, one, lim, answers)
		requests += n
		_, e := eval.Next(one, lim, answers[:n])
		ends[e.Kind]++
	}
	if requests < 10000 || slices.Min(ends[:]) < 50 {
		t.Errorf("%d requests, ends: %v", requests, ends)
	}
}
