package eval

import (
	"rendezvous/api"
	"rendezvous/conv"
	"rendezvous/heap"
	"rendezvous/tree"
)

// statementsOfProgram executes the statements of the program in its scope, which
// is there even if nothing is declared in it.
func (r *run) statementsOfProgram() *jump {
	in, j := r.inner(place{scope: heap.Outside})
	if j != nil {
		return j
	}
	return r.body(r.nodes[0].Kids, in)
}

// body executes the statements of a program or of a function, whose scope has
// been entered.
func (r *run) body(statements []int, in place) *jump {
	if j := r.introduce(statements, in); j != nil {
		return j
	}
	return r.inOrder(statements, in)
}

// inOrder executes statements up to one that does not end normally.
func (r *run) inOrder(statements []int, in place) *jump {
	for _, n := range statements {
		if j := r.statement(n, in, nil); j != nil {
			return j
		}
	}
	return nil
}

// statement executes a statement, with the labels directly around it.
func (r *run) statement(n int, in place, labels []string) *jump {
	if j := r.begin(); j != nil {
		return j
	}
	defer r.done()
	node := r.nodes[n]
	switch node.Kind {
	case tree.Expr:
		_, j := r.expression(node.Kids[0], in)
		return j
	case tree.Block:
		return r.block(node, in)
	case tree.Let, tree.Const:
		return r.declarations(node, in)
	case tree.If:
		return r.branch(node, in)
	case tree.While:
		return r.while(node, in, labels)
	case tree.For:
		return r.loop(node, in, labels)
	case tree.Break:
		return &jump{kind: breaks, name: node.Name}
	case tree.Continue:
		return &jump{kind: continues, name: node.Name}
	case tree.Return:
		return r.leave(returns, node, in)
	case tree.Throw:
		return r.leave(throws, node, in)
	case tree.Try:
		return r.try(node, in)
	case tree.Label:
		return r.label(node, in, labels)
	}
	// An Empty does nothing, and a Func was made when its scope was entered.
	return nil
}

func (r *run) block(node api.Node, in place) *jump {
	in, j := r.enter(node.Kids, in)
	if j != nil {
		return j
	}
	return r.inOrder(node.Kids, in)
}

// declarations executes the Decls of a Let or a Const, which the present scope declares.
func (r *run) declarations(node api.Node, in place) *jump {
	for _, n := range node.Kids {
		decl := r.nodes[n]
		v, j := r.optional(decl.Kids, in)
		if j != nil {
			return j
		}
		r.heap.Give(in.scope, decl.Name, v, true)
	}
	return nil
}

// optional returns the value of the expression, if there is one.
func (r *run) optional(kids []int, in place) (heap.Value, *jump) {
	if len(kids) == 0 {
		return heap.Value{}, nil
	}
	return r.expression(kids[0], in)
}

func (r *run) branch(node api.Node, in place) *jump {
	holds, j := r.holds(node.Kids[0], in)
	switch {
	case j != nil:
		return j
	case holds:
		return r.statement(node.Kids[1], in, nil)
	}
	return r.inOrder(node.Kids[2:], in)
}

// holds reports whether the value of an expression counts as true.
func (r *run) holds(n int, in place) (bool, *jump) {
	v, j := r.expression(n, in)
	return j == nil && conv.Bool(v), j
}

// leave ends a statement with the value of its expression, if it has one.
func (r *run) leave(kind int, node api.Node, in place) *jump {
	v, j := r.optional(node.Kids, in)
	if j != nil {
		return j
	}
	return &jump{kind: kind, v: v}
}

func (r *run) try(node api.Node, in place) *jump {
	j := r.statement(node.Kids[0], in, nil)
	if catch := r.nodes[node.Kids[1]]; j.is(throws) && catch.Kind == tree.Catch {
		j = r.catch(catch, j.v, in)
	}
	if j.is(stops) || r.nodes[node.Kids[2]].Kind == tree.Nothing {
		return j
	}
	if last := r.statement(node.Kids[2], in, nil); last != nil {
		return last
	}
	return j
}

func (r *run) catch(node api.Node, v heap.Value, in place) *jump {
	if node.Name == "" {
		return r.statement(node.Kids[0], in, nil)
	}
	in, j := r.inner(in)
	if j != nil {
		return j
	}
	r.heap.Declare(in.scope, node.Name, v, true, false)
	return r.statement(node.Kids[0], in, nil)
}
