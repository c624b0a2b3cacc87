package parse

import (
	"slices"

	"rendezvous/tree"
)

// Levels of binary operators, the loosest first. All other signs are at 0, below
// all of them, so that every loop over operators ends there.
const (
	either = iota + 1 // ??
	or
	and
	bitOr
	bitXor
	bitAnd
	equality
	relation
	shift
	sum
	product
)

func levelOf(sign string) int {
	switch sign {
	case "??":
		return either
	case "||":
		return or
	case "&&":
		return and
	case "|":
		return bitOr
	case "^":
		return bitXor
	case "&":
		return bitAnd
	case "==", "!=", "===", "!==":
		return equality
	case "<", ">", "<=", ">=", "in":
		return relation
	case "<<", ">>", ">>>":
		return shift
	case "+", "-":
		return sum
	case "*", "/", "%":
		return product
	}
	return 0
}

func isAssign(sign string) bool {
	switch sign {
	case "=", "+=", "-=", "*=", "/=", "%=", "&=", "|=", "^=", "<<=", ">>=", ">>>=":
		return true
	}
	return false
}

func isStep(sign string) bool { return sign == "++" || sign == "--" }

func isTarget(e branch) bool {
	switch e.node.Kind {
	case tree.Name, tree.Dot, tree.Index:
		return true
	}
	return false
}

// assign reads an Assign, which is what an E is.
func (p *parser) assign() branch {
	left := p.value()
	sign := p.now().Text
	switch {
	case !isAssign(sign):
		return left
	case !isTarget(left):
		return p.refuse()
	}
	p.pop()
	return named(tree.Assign, sign, left, p.assign())
}

// value reads an Assign up to its own operator: an arrow, or a Cond.
func (p *parser) value() branch {
	if p.isArrow() {
		return p.arrow()
	}
	e := p.operation(either, "")
	if !p.take("?") {
		return e
	}
	yes := p.assign()
	p.must(":")
	return of(tree.Cond, e, yes, p.assign())
}

// operation reads operands and the binary operators between them, none of which
// is looser than the level. An operator of Logic that stands ahead of the first
// operand is given too, as others must not be mixed with it.
func (p *parser) operation(level int, logic string) branch {
	left := p.prefixed()
operators:
	for {
		sign, kind := p.now().Text, tree.Binary
		next := levelOf(sign)
		switch {
		case next < level:
			break operators
		case next > and:
		case areMixed(logic, sign):
			return p.refuse()
		default:
			kind, logic = tree.Logic, sign
		}
		p.pop()
		left = named(kind, sign, left, p.operation(next+1, logic))
	}
	return left
}

// areMixed reports whether two operators of Logic, the first of which may be
// missing, need parentheses between them.
func areMixed(first, second string) bool {
	return first != "" && (first == "??") != (second == "??")
}

// prefixed reads an operand and the operators around it.
func (p *parser) prefixed() branch {
	signs := []string{}
operators:
	for {
		switch p.now().Text {
		case "-", "+", "!", "~", "typeof", "void", "++", "--":
			signs = append(signs, p.pop().Text)
		default:
			break operators
		}
	}
	e := p.postfixed()
	for _, sign := range slices.Backward(signs) {
		e = p.prefix(sign, e)
	}
	return e
}

// prefix puts an operator in front of what was read behind it.
func (p *parser) prefix(sign string, e branch) branch {
	switch {
	case !isStep(sign):
		return named(tree.Unary, sign, e)
	case !isTarget(e):
		return p.refuse()
	}
	return named(tree.Pre, sign, e)
}

func (p *parser) postfixed() branch {
	e := p.links(p.head(), true)
	token := p.now()
	switch {
	case !isStep(token.Text) || token.Nl:
		return e
	case !isTarget(e):
		return p.refuse()
	}
	p.pop()
	return named(tree.Post, token.Text, e)
}

// links reads the dots, the indexes and, where it may, the calls behind an expression.
func (p *parser) links(e branch, mayCall bool) branch {
links:
	for {
		switch {
		case p.take("."):
			e = named(tree.Dot, p.member(), e)
		case p.take("["):
			e = of(tree.Index, e, p.assign())
			p.must("]")
		case mayCall && p.is("("):
			e = of(tree.Call, p.called(e)...)
		default:
			break links
		}
	}
	return e
}

// called reads the arguments behind what is called, or constructed.
func (p *parser) called(e branch) []branch {
	p.must("(")
	return append([]branch{e}, p.list(")", p.assign)...)
}
