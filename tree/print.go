package tree

import (
	"iter"
	"strings"

	"rendezvous/api"
	"rendezvous/big"
	"rendezvous/num"
)

// tokens yields the tokens of a good tree in their order.
func tokens(nodes []api.Node) iter.Seq[string] {
	return func(yield func(string) bool) {
		printer{nodes, yield}.node(0)
	}
}

// printer hands tokens to the loop over them. Each of its methods answers
// whether that loop goes on; once it has ended, nothing more may be yielded.
type printer struct {
	nodes []api.Node
	yield func(string) bool
}

// put yields tokens, without those that are empty, as names may be.
func (p printer) put(list ...string) bool {
	for _, token := range list {
		if token != "" && !p.yield(token) {
			return false
		}
	}
	return true
}

func (p printer) node(n int) bool {
	node := p.nodes[n]
	if isExpression(node.Kind) {
		return p.expression(node)
	}
	return p.other(node)
}

// other prints a node that is no expression.
func (p printer) other(node api.Node) bool {
	kids := node.Kids
	switch node.Kind {
	case Program:
		return p.all(kids)
	case Empty:
		return p.put(";")
	case Expr:
		return p.enclosed(kids[0]) && p.put(";")
	case Block:
		return p.put("{") && p.all(kids) && p.put("}")
	case Let, Const:
		return p.declaration(node) && p.put(";")
	case Decl:
		return p.put(node.Name) && (len(kids) == 0 || p.put("=") && p.enclosed(kids[0]))
	case If:
		return p.put("if") && p.enclosed(kids[0]) && p.node(kids[1]) &&
			(len(kids) == 2 || p.put("else") && p.node(kids[2]))
	case While:
		return p.put("while") && p.enclosed(kids[0]) && p.node(kids[1])
	case For:
		return p.put("for", "(") && p.part(kids[0]) && p.put(";") && p.part(kids[1]) &&
			p.put(";") && p.part(kids[2]) && p.put(")") && p.node(kids[3])
	case Break:
		return p.put("break", node.Name, ";")
	case Continue:
		return p.put("continue", node.Name, ";")
	case Return:
		return p.put("return") && (len(kids) == 0 || p.enclosed(kids[0])) && p.put(";")
	case Throw:
		return p.put("throw") && p.enclosed(kids[0]) && p.put(";")
	case Try:
		return p.put("try") && p.all(kids[:2]) && (p.isNothing(kids[2]) || p.put("finally") && p.node(kids[2]))
	case Catch:
		return p.put("catch") && (node.Name == "" || p.put("(", node.Name, ")")) && p.node(kids[0])
	case Label:
		return p.put(node.Name, ":") && p.node(kids[0])
	case Func:
		return p.function(node)
	case Param:
		return p.put(node.Name)
	case Prop:
		return p.put(quoted(node.Str), ":") && p.operand(kids[0])
	}
	return true
}

// expression prints an E without parentheses around it.
func (p printer) expression(node api.Node) bool {
	kids := node.Kids
	switch node.Kind {
	case Number:
		return p.put(num.Text(node.N))
	case Big:
		return p.put(big.Text(node.B) + "n")
	case String:
		return p.put(quoted(node.Str))
	case Name:
		return p.put(node.Name)
	case True:
		return p.put("true")
	case False:
		return p.put("false")
	case Null:
		return p.put("null")
	case This:
		return p.put("this")
	case Array:
		return p.put("[") && p.list(kids, p.operand) && p.put("]")
	case Object:
		return p.put("{") && p.list(kids, p.node) && p.put("}")
	case Function:
		return p.function(node)
	case Arrow:
		last := len(kids) - 1
		return p.params(kids[:last]) && p.put("=>") && p.arrowBody(kids[last])
	case Unary:
		return p.put(node.Name) && p.operand(kids[0])
	case Pre:
		return p.put(node.Name) && p.node(kids[0])
	case Post:
		return p.node(kids[0]) && p.put(node.Name)
	case Binary, Logic:
		return p.operand(kids[0]) && p.put(node.Name) && p.operand(kids[1])
	case Cond:
		return p.operand(kids[0]) && p.put("?") && p.operand(kids[1]) && p.put(":") && p.operand(kids[2])
	case Assign:
		return p.node(kids[0]) && p.put(node.Name) && p.operand(kids[1])
	case Call:
		return p.call(kids)
	case New:
		return p.put("new") && p.call(kids)
	case Dot:
		return p.operand(kids[0]) && p.put(".", node.Name)
	case Index:
		return p.operand(kids[0]) && p.put("[") && p.operand(kids[1]) && p.put("]")
	}
	return true
}

// all prints nodes one after another.
func (p printer) all(kids []int) bool {
	for _, kid := range kids {
		if !p.node(kid) {
			return false
		}
	}
	return true
}

// list prints nodes, each in one way, with commas between them.
func (p printer) list(kids []int, one func(int) bool) bool {
	for i, kid := range kids {
		if i > 0 && !p.put(",") || !one(kid) {
			return false
		}
	}
	return true
}

// enclosed prints an E in parentheses.
func (p printer) enclosed(n int) bool {
	return p.put("(") && p.node(n) && p.put(")")
}

// operand prints an E in parentheses, unless it is a value, a name or a word.
func (p printer) operand(n int) bool {
	if p.nodes[n].Kind <= This {
		return p.node(n)
	}
	return p.enclosed(n)
}

// declaration prints a Let or Const up to its end, which in a For is another one.
func (p printer) declaration(node api.Node) bool {
	word := "let"
	if node.Kind == Const {
		word = "const"
	}
	return p.put(word) && p.list(node.Kids, p.node)
}

// part prints what stands between the parentheses of a For.
func (p printer) part(n int) bool {
	switch node := p.nodes[n]; node.Kind {
	case Nothing:
		return true
	case Let, Const:
		return p.declaration(node)
	}
	return p.enclosed(n)
}

func (p printer) isNothing(n int) bool { return p.nodes[n].Kind == Nothing }

func (p printer) function(node api.Node) bool {
	last := len(node.Kids) - 1
	return p.put("function", node.Name) && p.params(node.Kids[:last]) && p.node(node.Kids[last])
}

func (p printer) params(kids []int) bool {
	return p.put("(") && p.list(kids, p.node) && p.put(")")
}

func (p printer) arrowBody(n int) bool {
	if p.nodes[n].Kind == Block {
		return p.node(n)
	}
	return p.enclosed(n)
}

// call prints what is called, or constructed, and the arguments.
func (p printer) call(kids []int) bool {
	return p.operand(kids[0]) && p.put("(") && p.list(kids[1:], p.operand) && p.put(")")
}

// quoted returns the token of a string.
func quoted(u []uint16) string {
	const digits = "0123456789abcdef"
	var b strings.Builder
	b.WriteByte('"')
	for _, unit := range u {
		if unit >= ' ' && unit <= '~' && unit != '"' && unit != '\\' {
			b.WriteByte(byte(unit))
			continue
		}
		b.WriteString("\\u")
		for shift := 12; shift >= 0; shift -= 4 {
			b.WriteByte(digits[unit>>shift&15])
		}
	}
	b.WriteByte('"')
	return b.String()
}
