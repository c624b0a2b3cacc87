package eval

import (
	"rendezvous/api"
	"rendezvous/heap"
	"rendezvous/tree"
)

// run is an execution of a program from its beginning on.
type run struct {
	*Realm
}

// program executes the program.
func (r *run) program() *Jump {
	in, j := r.Begun()
	if j != nil {
		return j
	}
	return r.inOrder(r.nodes[0].Kids, in)
}

// inOrder executes statements up to one that does not end normally.
func (r *run) inOrder(statements []int, in Place) *Jump {
	for _, n := range statements {
		if j := r.statement(n, in, nil); j != nil {
			return j
		}
	}
	return nil
}

// statement executes a statement, with the labels directly around it.
func (r *run) statement(n int, in Place, labels []string) *Jump {
	if j := r.Begin(); j != nil {
		return j
	}
	defer r.Done()
	node := r.nodes[n]
	switch node.Kind {
	case tree.Expr:
		_, j := r.expression(node.Kids[0], in)
		return j
	case tree.Block:
		return r.block(node, in)
	case tree.Let, tree.Const:
		return r.declarations(node, in)
	case tree.If:
		return r.branch(node, in)
	case tree.While:
		return r.while(node, in, labels)
	case tree.For:
		return r.loop(node, in, labels)
	case tree.Break:
		return &Jump{Kind: Breaks, Name: node.Name}
	case tree.Continue:
		return &Jump{Kind: Continues, Name: node.Name}
	case tree.Return:
		return r.leave(Returns, node, in)
	case tree.Throw:
		return r.leave(Throws, node, in)
	case tree.Try:
		return r.try(node, in)
	case tree.Label:
		return r.label(node, in, labels)
	}
	// An Empty does nothing, and a Func was made when its scope was entered.
	return nil
}

func (r *run) block(node api.Node, in Place) *Jump {
	in, j := r.Enter(node.Kids, in)
	if j != nil {
		return j
	}
	return r.inOrder(node.Kids, in)
}

// declarations executes the Decls of a Let or a Const, which the present scope declares.
func (r *run) declarations(node api.Node, in Place) *Jump {
	for _, n := range node.Kids {
		decl := r.nodes[n]
		v, j := r.optional(decl.Kids, in)
		if j != nil {
			return j
		}
		r.Ready(decl.Name, v, in)
	}
	return nil
}

// optional returns the value of the expression, if there is one.
func (r *run) optional(kids []int, in Place) (heap.Value, *Jump) {
	if len(kids) == 0 {
		return heap.Value{}, nil
	}
	return r.expression(kids[0], in)
}

func (r *run) branch(node api.Node, in Place) *Jump {
	holds, j := r.holds(node.Kids[0], in)
	switch {
	case j != nil:
		return j
	case holds:
		return r.statement(node.Kids[1], in, nil)
	}
	return r.inOrder(node.Kids[2:], in)
}

// leave ends a statement with the value of its expression, if it has one.
func (r *run) leave(kind int, node api.Node, in Place) *Jump {
	v, j := r.optional(node.Kids, in)
	if j != nil {
		return j
	}
	return &Jump{Kind: kind, V: v}
}

func (r *run) try(node api.Node, in Place) *Jump {
	j := r.statement(node.Kids[0], in, nil)
	if catch := r.nodes[node.Kids[1]]; j.Is(Throws) && catch.Kind == tree.Catch {
		j = r.catch(catch, j.V, in)
	}
	if j.Is(Stops) || r.nodes[node.Kids[2]].Kind == tree.Nothing {
		return j
	}
	if last := r.statement(node.Kids[2], in, nil); last != nil {
		return last
	}
	return j
}

func (r *run) catch(node api.Node, v heap.Value, in Place) *Jump {
	in, j := r.Catch(node.Name, v, in)
	if j != nil {
		return j
	}
	return r.statement(node.Kids[0], in, nil)
}
