package agent

import (
	"slices"

	"rendezvous/api"
	"rendezvous/conv"
	"rendezvous/eval"
	"rendezvous/heap"
	"rendezvous/tree"
)

// How far a Try has come.
const (
	inBlock   = 1
	inCatch   = 2
	inFinally = 3
)

// step goes on with the node on top: it begins a part of it, or ends it. The jump
// that it returns ends the node.
func (a *Agent) step(f *frame) *eval.Jump {
	node := a.nodes[f.node]
	switch node.Kind {
	case tree.Program, tree.Block:
		return a.block(f, node)
	case tree.Empty, tree.Func:
		return a.endWith(nil)
	case tree.Expr:
		return a.effect(f, node)
	case tree.Let, tree.Const:
		return a.declarations(f, node)
	case tree.If:
		return a.branch(f, node)
	case tree.While:
		return a.while(f, node)
	case tree.For:
		return a.loop(f, node)
	case tree.Break:
		return &eval.Jump{Kind: eval.Breaks, Name: node.Name}
	case tree.Continue:
		return &eval.Jump{Kind: eval.Continues, Name: node.Name}
	case tree.Return:
		return a.leave(eval.Returns, f, node)
	case tree.Throw:
		return a.leave(eval.Throws, f, node)
	case tree.Try:
		return a.try(f, node)
	case tree.Label:
		return a.label(f, node)
	}
	return a.expression(f, node)
}

// block executes the statements of the program, of a Block, or of a body.
func (a *Agent) block(f *frame, node api.Node) *eval.Jump {
	if f.at == 0 && !f.body {
		in, j := a.realm.Enter(node.Kids, f.in)
		if j != nil {
			return j
		}
		f.in = in
	}
	switch {
	case f.at < len(node.Kids):
		return a.part(f, node.Kids[f.at])
	case f.body && node.Kind == tree.Block:
		return a.give(heap.Value{})
	}
	return a.endWith(nil)
}

// effect executes an expression for what it does.
func (a *Agent) effect(f *frame, node api.Node) *eval.Jump {
	if f.at == 0 {
		return a.part(f, node.Kids[0])
	}
	return a.endWith(nil)
}

func (a *Agent) declarations(f *frame, node api.Node) *eval.Jump {
	if f.at > 0 {
		a.realm.Ready(a.nodes[node.Kids[f.at-1]].Name, f.last(), f.in)
	}
	if f.at == len(node.Kids) {
		return a.endWith(nil)
	}
	decl := a.nodes[node.Kids[f.at]]
	if len(decl.Kids) > 0 {
		return a.part(f, decl.Kids[0])
	}
	f.at++
	f.got = append(f.got, heap.Value{})
	return nil
}

func (a *Agent) branch(f *frame, node api.Node) *eval.Jump {
	switch {
	case f.at == 0:
		return a.part(f, node.Kids[0])
	case f.at == 1 && conv.Bool(f.got[0]):
		return a.part(f, node.Kids[1])
	case f.at == 1 && len(node.Kids) > 2:
		return a.part(f, node.Kids[2])
	}
	return a.endWith(nil)
}

// leave ends a statement with the value of its expression, if it has one.
func (a *Agent) leave(kind int, f *frame, node api.Node) *eval.Jump {
	if f.at < len(node.Kids) {
		return a.part(f, node.Kids[0])
	}
	j := &eval.Jump{Kind: kind}
	if f.at > 0 {
		j.V = f.got[0]
	}
	return j
}

func (a *Agent) label(f *frame, node api.Node) *eval.Jump {
	if f.at > 0 {
		return a.endWith(nil)
	}
	if j := a.part(f, node.Kids[0]); j != nil {
		return j
	}
	a.top().labels = append(slices.Clone(f.labels), node.Name)
	return nil
}

func (a *Agent) try(f *frame, node api.Node) *eval.Jump {
	switch f.at {
	case 0:
		return a.part(f, node.Kids[0])
	case inFinally:
		return a.endWith(f.held)
	}
	return a.finally(f, node, nil)
}

// passTry returns what becomes of a Try of which a part has ended with j.
func (a *Agent) passTry(f *frame, node api.Node, j *eval.Jump) *eval.Jump {
	catch := a.nodes[node.Kids[1]]
	switch {
	case f.at == inFinally:
		return j
	case f.at == inBlock && j.Is(eval.Throws) && catch.Kind == tree.Catch:
		f.at = inCatch
		in, stop := a.realm.Catch(catch.Name, j.V, f.in)
		if stop != nil {
			return stop
		}
		return a.begin(catch.Kids[0], in)
	}
	return a.finally(f, node, j)
}

// finally begins the last Block of a Try, if there is one; the parts ahead of it
// have ended with j.
func (a *Agent) finally(f *frame, node api.Node, j *eval.Jump) *eval.Jump {
	if a.nodes[node.Kids[2]].Kind == tree.Nothing {
		return a.endWith(j)
	}
	f.at, f.held = inFinally, j
	return a.begin(node.Kids[2], f.in)
}
