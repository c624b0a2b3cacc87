package eval_test

import (
	"slices"

	"rendezvous/api"
	"rendezvous/elem"
	"rendezvous/eval"
)

// memory answers the requests of one agent that is alone: its blocks, its reports
// and its clock.
type memory struct {
	blocks  [][]byte
	reports [][]uint16
	now     int
}

// kindOfSize is a kind of elements of this size.
func kindOfSize(size int) int {
	kinds := []int{api.EUint8, api.EUint16, api.EUint32, api.EBigUint64}
	return kinds[slices.Index([]int{1, 2, 4, 8}, size)]
}

// answer is what is answered to a request.
func (m *memory) answer(q eval.Req) eval.Ans {
	switch q.Kind {
	case eval.Make:
		m.blocks = append(m.blocks, make([]byte, q.Len))
		return eval.Ans{Block: len(m.blocks) - 1}
	case eval.Load, eval.Store, eval.Change, eval.Swap, eval.Wait:
		return m.access(q)
	case eval.Report:
		m.reports = append(m.reports, q.Text)
	case eval.GetReport:
		if len(m.reports) == 0 {
			return eval.Ans{Code: 1}
		}
		u := m.reports[0]
		m.reports = m.reports[1:]
		return eval.Ans{Text: u}
	case eval.Receive:
		m.blocks = append(m.blocks, make([]byte, 16))
		return eval.Ans{Block: len(m.blocks) - 1, Len: 16}
	case eval.Sleep:
		m.now += q.N.N
	case eval.Now:
		return eval.Ans{Word: uint64(m.now)}
	}
	return eval.Ans{}
}

// access loads, stores, changes or swaps a word, or waits until its time is over.
func (m *memory) access(q eval.Req) eval.Ans {
	kind, b := kindOfSize(q.Size), m.blocks[q.Block][q.At:q.At+q.Size]
	old, _ := elem.Word(kind, b)
	switch q.Kind {
	case eval.Store:
		copy(b, elem.Bytes(kind, q.Word))
		return eval.Ans{}
	case eval.Change:
		word, _ := elem.Change(kind, q.Op, old, q.Word)
		copy(b, elem.Bytes(kind, word))
	case eval.Swap:
		if old == q.Want {
			copy(b, elem.Bytes(kind, q.Word))
		}
	case eval.Wait:
		if old != q.Want {
			return eval.Ans{Code: 1}
		}
		return eval.Ans{Code: 2}
	}
	return eval.Ans{Word: old}
}

// played is what an agent that is alone has requested, what was answered, and how
// it has ended; after so many requests, it is left where it is.
func played(t api.Tree, lim eval.Limits, most int) ([]eval.Req, []eval.Ans, eval.End) {
	m := memory{}
	requests, answers := []eval.Req{}, []eval.Ans{}
	for range most {
		q, e := eval.Next(t, lim, answers)
		if e.Kind != eval.Asks {
			return requests, answers, e
		}
		requests = append(requests, q)
		answers = append(answers, m.answer(q))
	}
	return requests, answers, eval.End{}
}
