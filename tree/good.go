package tree

import (
	"slices"

	"rendezvous/api"
)

// isLaidOut reports whether the nodes are in the order in which they are met,
// each of them once, and neither too many nor nested too deeply.
func isLaidOut(nodes []api.Node) bool {
	if len(nodes) == 0 || len(nodes) > api.MaxNodes {
		return false
	}
	end, ok := endOf(nodes, 0, 1)
	return ok && end == len(nodes)
}

// endOf returns the number behind all that is inside the node n, whose own nest
// is given, if all of it is in order.
func endOf(nodes []api.Node, n, nest int) (int, bool) {
	if nest > api.MaxNest {
		return 0, false
	}
	next := n + 1
	for _, kid := range nodes[n].Kids {
		if kid != next || kid >= len(nodes) {
			return 0, false
		}
		end, ok := endOf(nodes, kid, nest+1)
		if !ok {
			return 0, false
		}
		next = end
	}
	return next, true
}

// allFit reports whether each of the nodes, which are laid out, has the fields
// and the children of its kind.
func allFit(nodes []api.Node) bool {
	for _, node := range nodes {
		if !hasFields(node) || !hasKids(nodes, node) {
			return false
		}
	}
	return true
}

// hasKids reports whether the children of a node are such as its kind asks for.
// No kind asks for a Program, so there is only the first one.
func hasKids(nodes []api.Node, node api.Node) bool {
	kids := make([]int, len(node.Kids))
	for i, kid := range node.Kids {
		kids[i] = nodes[kid].Kind
	}
	switch {
	case isExpression(node.Kind):
		return hasExpressionKids(node.Kind, kids)
	case node.Kind == If && len(kids) == 3 && endsInShortIf(nodes, node.Kids[1]):
		return false
	}
	return hasOtherKids(node.Kind, kids)
}

func hasOtherKids(kind int, kids []int) bool {
	switch kind {
	case Empty, Nothing, Break, Continue, Param:
		return are(kids)
	case Program, Block:
		return each(kids, isStatement)
	case Let, Const:
		return len(kids) > 0 && each(kids, only(Decl))
	case Decl, Return:
		return are(kids) || are(kids, isExpression)
	case Expr, Throw, Prop:
		return are(kids, isExpression)
	case If:
		return are(kids, isExpression, isBody) || are(kids, isExpression, isBody, isBody)
	case While:
		return are(kids, isExpression, isBody)
	case For:
		return are(kids, isStart, isPart, isPart, isBody)
	case Try:
		return are(kids, only(Block), only(Nothing, Catch), only(Nothing, Block)) &&
			(kids[1] != Nothing || kids[2] != Nothing)
	case Catch:
		return are(kids, only(Block))
	case Label:
		return are(kids, isBody)
	case Func:
		return areParams(kids, only(Block))
	}
	return false
}

func hasExpressionKids(kind int, kids []int) bool {
	switch kind {
	case Number, Big, String, Name, True, False, Null, This:
		return are(kids)
	case Array:
		return each(kids, isExpression)
	case Object:
		return each(kids, only(Prop))
	case Function:
		return areParams(kids, only(Block))
	case Arrow:
		return areParams(kids, isArrowBody)
	case Unary, Dot:
		return are(kids, isExpression)
	case Pre, Post:
		return are(kids, isTarget)
	case Binary, Logic, Index:
		return are(kids, isExpression, isExpression)
	case Cond:
		return are(kids, isExpression, isExpression, isExpression)
	case Assign:
		return are(kids, isTarget, isExpression)
	case Call, New:
		return len(kids) > 0 && each(kids, isExpression)
	}
	return false
}

// are reports whether there are as many kinds as tests, and each one passes its own.
func are(kinds []int, tests ...func(int) bool) bool {
	if len(kinds) != len(tests) {
		return false
	}
	for i, passes := range tests {
		if !passes(kinds[i]) {
			return false
		}
	}
	return true
}

// each reports whether all kinds pass one test.
func each(kinds []int, passes func(int) bool) bool {
	for _, kind := range kinds {
		if !passes(kind) {
			return false
		}
	}
	return true
}

// areParams reports whether the kinds are those of params and of a body.
func areParams(kinds []int, isLast func(int) bool) bool {
	last := len(kinds) - 1
	return last >= 0 && each(kinds[:last], only(Param)) && isLast(kinds[last])
}

// only returns the test that just some kinds pass.
func only(some ...int) func(int) bool {
	return func(kind int) bool { return slices.Contains(some, kind) }
}

func isStatement(kind int) bool {
	return isBody(kind) || kind == Let || kind == Const || kind == Func
}

// isBody is passed by the statements that may be a child of If, While, For and Label.
func isBody(kind int) bool {
	switch kind {
	case Empty, Expr, Block, If, While, For, Break, Continue, Return, Throw, Try, Label:
		return true
	}
	return false
}

func isExpression(kind int) bool {
	return kind >= Number && kind <= Index && kind != Prop
}

func isTarget(kind int) bool {
	return kind == Name || kind == Dot || kind == Index
}

// isStart is passed by what may be the first child of a For.
func isStart(kind int) bool {
	return kind == Let || kind == Const || isPart(kind)
}

// isPart is passed by what may be the second or third child of a For.
func isPart(kind int) bool {
	return kind == Nothing || isExpression(kind)
}

func isArrowBody(kind int) bool {
	return kind == Block || isExpression(kind)
}

// endsInShortIf reports whether a statement ends with an If without an else,
// which would take an else that is printed behind it. What is inside need not
// have been checked yet: the search ends at whatever has no last statement.
func endsInShortIf(nodes []api.Node, n int) bool {
	isOpen := only(If, While, For, Label)
	for isOpen(nodes[n].Kind) && len(nodes[n].Kids) > 0 {
		last := len(nodes[n].Kids) - 1
		if nodes[n].Kind == If && last == 1 {
			return true
		}
		n = nodes[n].Kids[last]
	}
	return false
}
