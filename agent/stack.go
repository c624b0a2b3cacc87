package agent

import (
	"slices"

	"rendezvous/eval"
	"rendezvous/heap"
	"rendezvous/tree"
)

// frame is a node that has begun and not ended.
type frame struct {
	node int
	// body tells that it is the Program or the body of a function, neither of which
	// counts as a node that begins.
	body   bool
	in     eval.Place
	at     int          // how far it has come: how many of its parts have begun
	got    []heap.Value // what its parts have returned, and what is needed beside it
	from   heap.Value   // what the last part was read from, if that was a property
	labels []string     // those directly around it
	held   *eval.Jump   // how a Try ends after its finally
	called *eval.Body   // of a Call or a New: what is executed for it
}

func (f *frame) copied() *frame {
	twin := *f
	twin.got = slices.Clone(f.got)
	return &twin
}

// last returns the value that the frame got last.
func (f *frame) last() heap.Value { return f.got[len(f.got)-1] }

func (a *Agent) top() *frame { return a.stack[len(a.stack)-1] }

func (a *Agent) push(f *frame) { a.stack = append(a.stack, f) }

func (a *Agent) pop() {
	if !a.top().body {
		a.realm.Done()
	}
	a.stack = a.stack[:len(a.stack)-1]
}

// goOn executes the program up to its next request, or its end; j is a jump with
// which the node on top ends.
//
// A step that requests something leaves its frame as it is, and is taken again when
// there is an answer.
func (a *Agent) goOn(j *eval.Jump) {
steps:
	for len(a.stack) > 0 {
		switch {
		case j == nil:
			j = a.step(a.top())
		case j.Is(eval.Stops):
			break steps
		default:
			j = a.pass(j)
		}
	}
	a.req, a.end = a.realm.Outcome(j)
	if a.end.Kind != eval.Asks {
		a.nodes, a.realm, a.stack = nil, nil, nil
	}
}

// pass ends the node on top with j, and returns the jump with which the node
// around it ends, too; nil if that goes on.
func (a *Agent) pass(j *eval.Jump) *eval.Jump {
	a.pop()
	if len(a.stack) == 0 {
		return j
	}
	f := a.top()
	node := a.nodes[f.node]
	switch {
	case f.body && j.Is(eval.Returns):
		return a.give(j.V)
	case node.Kind == tree.Label && j.IsBreak(node.Name):
		return a.endWith(nil)
	case node.Kind == tree.While, node.Kind == tree.For:
		return a.passLoop(f, j)
	case node.Kind == tree.Try:
		return a.passTry(f, node, j)
	}
	return j
}

// begin begins a node.
func (a *Agent) begin(n int, in eval.Place) *eval.Jump {
	if j := a.realm.Begin(); j != nil {
		return j
	}
	a.push(&frame{node: n, in: in})
	return nil
}

// part begins the next part of the node on top.
func (a *Agent) part(f *frame, n int) *eval.Jump {
	f.at++
	return a.begin(n, f.in)
}

// endWith ends the node on top, normally or with a jump, which goOn passes on.
func (a *Agent) endWith(j *eval.Jump) *eval.Jump {
	if j == nil {
		a.pop()
	}
	return j
}

// give ends the node on top, and gives its value to the node around it.
func (a *Agent) give(v heap.Value) *eval.Jump {
	a.pop()
	f := a.top()
	f.got = append(f.got, v)
	return nil
}

// result ends the node on top with a value, or with a jump.
func (a *Agent) result(v heap.Value, j *eval.Jump) *eval.Jump {
	if j != nil {
		return j
	}
	return a.give(v)
}
