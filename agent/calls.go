package agent

import (
	"rendezvous/api"
	"rendezvous/eval"
	"rendezvous/heap"
	"rendezvous/tree"
)

// call goes on with a Call or a New. It gets the function, the this, the arguments,
// and what the body that is executed for it returns.
func (a *Agent) call(f *frame, node api.Node) *eval.Jump {
	if f.called != nil {
		return a.give(f.called.Result(f.last()))
	}
	if len(f.got) == 1 {
		f.got = append(f.got, a.this(f, node))
	}
	if f.at < len(node.Kids) {
		return a.part(f, node.Kids[f.at])
	}
	v, b, j := a.apply(f, node)
	if b == nil {
		return a.result(v, j)
	}
	f.called = b
	return a.enter(b)
}

// this returns the this of a call whose function has just been executed.
func (a *Agent) this(f *frame, node api.Node) heap.Value {
	switch a.nodes[node.Kids[0]].Kind {
	case tree.Dot, tree.Index:
		return f.from
	}
	return heap.Value{}
}

// apply calls or constructs.
func (a *Agent) apply(f *frame, node api.Node) (heap.Value, *eval.Body, *eval.Jump) {
	if node.Kind == tree.New {
		return a.realm.Construct(f.got[0], f.got[2:])
	}
	return a.realm.Call(f.got[0], f.got[1], f.got[2:])
}

// enter begins the body of a function.
func (a *Agent) enter(b *eval.Body) *eval.Jump {
	if a.nodes[b.Node].Kind != tree.Block {
		return a.begin(b.Node, b.In)
	}
	a.push(&frame{node: b.Node, body: true, in: b.In})
	return nil
}
