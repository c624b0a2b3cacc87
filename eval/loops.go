package eval

import (
	"slices"

	"rendezvous/api"
	"rendezvous/tree"
)

func (r *run) label(node api.Node, in Place, labels []string) *Jump {
	j := r.statement(node.Kids[0], in, append(slices.Clone(labels), node.Name))
	if j.IsBreak(node.Name) {
		return nil
	}
	return j
}

func (r *run) while(node api.Node, in Place, labels []string) *Jump {
turns:
	for {
		holds, j := r.holds(node.Kids[0], in)
		if j != nil || !holds {
			return j
		}
		j = r.statement(node.Kids[1], in, nil)
		switch {
		case j.GoesOn(labels):
			continue turns
		case j.IsBreak(""):
			break turns
		}
		return j
	}
	return nil
}

// loop executes a For.
func (r *run) loop(node api.Node, in Place, labels []string) *Jump {
	first, test, step, statement := node.Kids[0], node.Kids[1], node.Kids[2], node.Kids[3]
	in, j := r.beginLoop(first, in)
	if j != nil {
		return j
	}
turns:
	for {
		holds, j := r.goesRound(test, in)
		if j != nil || !holds {
			return j
		}
		j = r.statement(statement, in, nil)
		switch {
		case j.IsBreak(""):
			break turns
		case !j.GoesOn(labels):
			return j
		}
		if in, j = r.Turn(first, in); j != nil {
			return j
		}
		if j = r.part(step, in); j != nil {
			return j
		}
	}
	return nil
}

// beginLoop executes the first child of a For, in the scope of the For, if that
// has one, and returns where the first turn is executed.
func (r *run) beginLoop(first int, in Place) (Place, *Jump) {
	if !r.declares([]int{first}) {
		return in, r.part(first, in)
	}
	in, j := r.Enter([]int{first}, in)
	if j != nil {
		return in, j
	}
	if j := r.statement(first, in, nil); j != nil {
		return in, j
	}
	return r.Turn(first, in)
}

// goesRound reports whether a For has another turn.
func (r *run) goesRound(test int, in Place) (bool, *Jump) {
	if r.nodes[test].Kind == tree.Nothing {
		return true, nil
	}
	return r.holds(test, in)
}

// part executes a child of a For that is an expression or Nothing.
func (r *run) part(n int, in Place) *Jump {
	if r.nodes[n].Kind == tree.Nothing {
		return nil
	}
	_, j := r.expression(n, in)
	return j
}
