package agent

import (
	"strings"

	"rendezvous/api"
	"rendezvous/conv"
	"rendezvous/eval"
	"rendezvous/tree"
)

func (a *Agent) expression(f *frame, node api.Node) *eval.Jump {
	switch node.Kind {
	case tree.Array:
		return a.array(f, node)
	case tree.Object:
		return a.object(f, node)
	case tree.Unary:
		return a.unary(f, node)
	case tree.Pre, tree.Post:
		return a.increment(f, node)
	case tree.Binary:
		return a.binary(f, node)
	case tree.Logic:
		return a.logic(f, node)
	case tree.Cond:
		return a.cond(f, node)
	case tree.Assign:
		return a.assign(f, node)
	case tree.Call, tree.New:
		return a.call(f, node)
	case tree.Dot, tree.Index:
		return a.property(f, node)
	}
	return a.result(a.realm.Leaf(f.node, f.in))
}

// array goes on with an Array; what it has got first is the array.
func (a *Agent) array(f *frame, node api.Node) *eval.Jump {
	if f.at == 0 {
		array, j := a.realm.NewArray()
		if j != nil {
			return j
		}
		f.got = append(f.got, array)
	} else {
		a.realm.Push(f.got[0], f.last())
	}
	if f.at < len(node.Kids) {
		return a.part(f, node.Kids[f.at])
	}
	return a.give(f.got[0])
}

// object goes on with an Object; what it has got first is the object.
func (a *Agent) object(f *frame, node api.Node) *eval.Jump {
	if f.at == 0 {
		object, j := a.realm.NewObject()
		if j != nil {
			return j
		}
		f.got = append(f.got, object)
	} else {
		key := a.nodes[node.Kids[f.at-1]].Str
		if j := a.realm.Put(f.got[0], key, f.last()); j != nil {
			return j
		}
	}
	if f.at < len(node.Kids) {
		return a.part(f, a.nodes[node.Kids[f.at]].Kids[0])
	}
	return a.give(f.got[0])
}

func (a *Agent) unary(f *frame, node api.Node) *eval.Jump {
	operand := a.nodes[node.Kids[0]]
	switch {
	case node.Name == "typeof" && operand.Kind == tree.Name:
		return a.result(a.realm.TypeOfName(operand.Name, f.in))
	case f.at == 0:
		return a.part(f, node.Kids[0])
	}
	return a.result(a.realm.Unary(node.Name, f.got[0]))
}

func (a *Agent) binary(f *frame, node api.Node) *eval.Jump {
	if f.at < len(node.Kids) {
		return a.part(f, node.Kids[f.at])
	}
	return a.result(a.realm.Binary(node.Name, f.got[0], f.got[1]))
}

func (a *Agent) logic(f *frame, node api.Node) *eval.Jump {
	if f.at == 0 || f.at == 1 && !eval.Decides(node.Name, f.got[0]) {
		return a.part(f, node.Kids[f.at])
	}
	return a.give(f.last())
}

func (a *Agent) cond(f *frame, node api.Node) *eval.Jump {
	switch {
	case f.at == 0:
		return a.part(f, node.Kids[0])
	case f.at == 1 && conv.Bool(f.got[0]):
		return a.part(f, node.Kids[1])
	case f.at == 1:
		return a.part(f, node.Kids[2])
	}
	return a.give(f.last())
}

// property goes on with a Dot or an Index, and tells the node around it what the
// property was read from.
func (a *Agent) property(f *frame, node api.Node) *eval.Jump {
	if f.at < len(node.Kids) {
		return a.part(f, node.Kids[f.at])
	}
	v, j := a.realm.Read(eval.TargetOf(node, f.got), f.in)
	if j != nil {
		return j
	}
	a.give(v)
	a.top().from = f.got[0]
	return nil
}

// assign goes on with an Assign. Behind the parts of the target, it gets the old
// value, unless the operator is `=`, and that of its E.
func (a *Agent) assign(f *frame, node api.Node) *eval.Jump {
	to := a.nodes[node.Kids[0]]
	if f.at < len(to.Kids) {
		return a.part(f, to.Kids[f.at])
	}
	target, op := eval.TargetOf(to, f.got), strings.TrimSuffix(node.Name, "=")
	if f.at == len(to.Kids) {
		return a.assigned(f, target, op, node.Kids[1])
	}
	v := f.last()
	if op != "" {
		sum, j := a.realm.Binary(op, f.got[len(f.got)-2], v)
		if j != nil {
			return j
		}
		v = sum
	}
	return a.result(v, a.realm.Write(target, v, f.in))
}

// assigned begins the E of an Assign.
func (a *Agent) assigned(f *frame, target eval.Target, op string, n int) *eval.Jump {
	if op != "" {
		old, j := a.realm.Read(target, f.in)
		if j != nil {
			return j
		}
		f.got = append(f.got, old)
	}
	return a.part(f, n)
}

// increment goes on with a Pre or a Post. Behind the parts of the target, it gets
// the old value.
func (a *Agent) increment(f *frame, node api.Node) *eval.Jump {
	to := a.nodes[node.Kids[0]]
	if f.at < len(to.Kids) {
		return a.part(f, to.Kids[f.at])
	}
	target := eval.TargetOf(to, f.got)
	if f.at == len(to.Kids) {
		old, j := a.realm.Read(target, f.in)
		if j != nil {
			return j
		}
		f.got = append(f.got, old)
		f.at++
	}
	before, after, j := a.realm.Step(node.Name, f.last())
	if j != nil {
		return j
	}
	j = a.realm.Write(target, after, f.in)
	if node.Kind == tree.Post {
		return a.result(before, j)
	}
	return a.result(after, j)
}
