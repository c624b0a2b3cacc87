package event_test

import (
	"math/big"
	"reflect"

	"rendezvous/event"
)

// overlapByTheBook cuts the two ranges by integers of any size.
func overlapByTheBook(a, b event.Event) bool {
	if a.Kind == 0 || b.Kind == 0 || a.Block != b.Block {
		return false
	}
	begin, end := big.NewInt(int64(a.At)), sum(a.At, a.Size)
	if x := big.NewInt(int64(b.At)); x.Cmp(begin) > 0 {
		begin = x
	}
	if x := sum(b.At, b.Size); x.Cmp(end) < 0 {
		end = x
	}
	return begin.Cmp(end) < 0
}

func sum(a, b int) *big.Int { return new(big.Int).Add(big.NewInt(int64(a)), big.NewInt(int64(b))) }

// place is a byte of a block.
type place struct{ block, at int }

// fault names the first rule of the chapter that a log breaks, or nothing.
func fault(l event.Log) string {
	if len(l.Events) > 1000 || len(l.Pairs) > 1000 {
		return "count"
	}
	written := map[place]map[int]byte{}
	for n, e := range l.Events {
		if why := shapeFault(e); why != "" {
			return why
		}
		for i, from := range e.From {
			b, ok := written[place{e.Block, e.At + i}][from]
			if from == -1 {
				b, ok = 0, true
			}
			switch {
			case !ok:
				return "from"
			case b != e.Read[i]:
				return "byte"
			}
		}
		for i, b := range e.Wrote {
			p := place{e.Block, e.At + i}
			if written[p] == nil {
				written[p] = map[int]byte{}
			}
			written[p][n] = b
		}
	}
	for _, p := range l.Pairs {
		if !(0 <= p[0] && p[0] < p[1] && p[1] < len(l.Events)) {
			return "pair"
		}
	}
	return ""
}

func shapeFault(e event.Event) string {
	reads, writes := 0, 0
	switch e.Kind {
	case 0:
	case 1:
		reads = e.Size
	case 2:
		writes = e.Size
	case 3:
		reads, writes = e.Size, e.Size
	default:
		return "kind"
	}
	switch {
	case e.Agent < 0 || e.Agent > 63:
		return "agent"
	case e.Kind == 0:
		if e.Seq || e.NoTear || e.Block != 0 || e.At != 0 || e.Size != 0 || len(e.Read)+len(e.Wrote)+len(e.From) > 0 {
			return "sync"
		}
		return ""
	case e.Block < 0 || e.Block > 15:
		return "block"
	case e.Size < 1 || e.Size > 8:
		return "size"
	case e.At < 0 || e.At > 256-e.Size:
		return "at"
	case len(e.Read) != reads || len(e.From) != reads || len(e.Wrote) != writes:
		return "lists"
	case e.Kind == 3 && !(e.Seq && e.NoTear):
		return "change"
	}
	return ""
}

// sameByTheBook compares copies in which all empty lists are nil.
func sameByTheBook(a, b event.Log) bool { return reflect.DeepEqual(deep(a), deep(b)) }

// headByTheBook is a head of which each event and each pair is asked for by its numbers.
func headByTheBook(l event.Log, n int) event.Log {
	head, in := event.Log{}, map[int]bool{}
	for i, e := range l.Events {
		if i < n {
			head.Events, in[i] = append(head.Events, e), true
		}
	}
	for _, p := range l.Pairs {
		if in[p[0]] && in[p[1]] {
			head.Pairs = append(head.Pairs, p)
		}
	}
	return deep(head)
}
