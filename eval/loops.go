package eval

import (
	"slices"

	"rendezvous/api"
	"rendezvous/tree"
)

func (r *run) label(node api.Node, in place, labels []string) *jump {
	j := r.statement(node.Kids[0], in, append(slices.Clone(labels), node.Name))
	if j.isBreak(node.Name) {
		return nil
	}
	return j
}

func (r *run) while(node api.Node, in place, labels []string) *jump {
turns:
	for {
		holds, j := r.holds(node.Kids[0], in)
		if j != nil || !holds {
			return j
		}
		j = r.statement(node.Kids[1], in, nil)
		switch {
		case j.goesOn(labels):
			continue turns
		case j.isBreak(""):
			break turns
		}
		return j
	}
	return nil
}

// loop executes a For.
func (r *run) loop(node api.Node, in place, labels []string) *jump {
	first, test, step, statement := node.Kids[0], node.Kids[1], node.Kids[2], node.Kids[3]
	in, j := r.beginLoop(first, in)
	if j != nil {
		return j
	}
turns:
	for {
		holds, j := r.goesRound(test, in)
		if j != nil || !holds {
			return j
		}
		j = r.statement(statement, in, nil)
		switch {
		case j.isBreak(""):
			break turns
		case !j.goesOn(labels):
			return j
		}
		if in, j = r.nextTurn(first, in); j != nil {
			return j
		}
		if j = r.part(step, in); j != nil {
			return j
		}
	}
	return nil
}

// beginLoop executes the first child of a For, in the scope of the For, if that
// has one, and returns where the first turn is executed.
func (r *run) beginLoop(first int, in place) (place, *jump) {
	if !r.declares([]int{first}) {
		return in, r.part(first, in)
	}
	in, j := r.enter([]int{first}, in)
	if j != nil {
		return in, j
	}
	if j := r.statement(first, in, nil); j != nil {
		return in, j
	}
	return r.nextTurn(first, in)
}

// nextTurn returns where the next turn of a For is executed: with a Let, that is
// a new scope.
func (r *run) nextTurn(first int, in place) (place, *jump) {
	if r.nodes[first].Kind != tree.Let {
		return in, nil
	}
	return r.turn(in)
}

// goesRound reports whether a For has another turn.
func (r *run) goesRound(test int, in place) (bool, *jump) {
	if r.nodes[test].Kind == tree.Nothing {
		return true, nil
	}
	return r.holds(test, in)
}

// part executes a child of a For that is an expression or Nothing.
func (r *run) part(n int, in place) *jump {
	if r.nodes[n].Kind == tree.Nothing {
		return nil
	}
	_, j := r.expression(n, in)
	return j
}
