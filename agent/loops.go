package agent

import (
	"rendezvous/api"
	"rendezvous/conv"
	"rendezvous/eval"
	"rendezvous/tree"
)

func (a *Agent) while(f *frame, node api.Node) *eval.Jump {
	switch f.at {
	case 0:
		f.got = nil
		return a.part(f, node.Kids[0])
	case 1:
		if !conv.Bool(f.got[0]) {
			return a.endWith(nil)
		}
		return a.part(f, node.Kids[1])
	}
	f.at = 0
	return nil
}

// What comes next of a For. Behind its last part, the test comes again.
const (
	atFirst     = 0
	atFirstTurn = 1
	atTest      = 2
	atStatement = 3
	atNextTurn  = 4
	atStep      = 5
)

// loop executes a For.
func (a *Agent) loop(f *frame, node api.Node) *eval.Jump {
	first, test, step, statement := node.Kids[0], node.Kids[1], node.Kids[2], node.Kids[3]
	switch f.at {
	case atFirst:
		return a.beginLoop(f, first)
	case atTest:
		f.got = nil
		return a.optional(f, test)
	case atStatement:
		if len(f.got) > 0 && !conv.Bool(f.got[0]) {
			return a.endWith(nil)
		}
		return a.part(f, statement)
	case atFirstTurn, atNextTurn:
		return a.turn(f, first)
	case atStep:
		return a.optional(f, step)
	}
	f.at = atTest
	return nil
}

// beginLoop executes the first child of a For, in the scope of the For, if that has one.
func (a *Agent) beginLoop(f *frame, first int) *eval.Jump {
	in, j := a.realm.Enter([]int{first}, f.in)
	if j != nil {
		return j
	}
	f.in = in
	return a.optional(f, first)
}

func (a *Agent) turn(f *frame, first int) *eval.Jump {
	in, j := a.realm.Turn(first, f.in)
	f.in = in
	f.at++
	return j
}

// optional begins the next part of a For, unless that is Nothing.
func (a *Agent) optional(f *frame, n int) *eval.Jump {
	if a.nodes[n].Kind == tree.Nothing {
		f.at++
		return nil
	}
	return a.part(f, n)
}

// passLoop returns what becomes of a loop whose statement has ended with j.
func (a *Agent) passLoop(f *frame, j *eval.Jump) *eval.Jump {
	switch {
	case j.GoesOn(f.labels):
		return nil
	case j.IsBreak(""):
		return a.endWith(nil)
	}
	return j
}
