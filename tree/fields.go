package tree

import (
	"rendezvous/api"
	"rendezvous/big"
	"rendezvous/lex"
	"rendezvous/num"
)

// hasFields reports whether the fields of a node, apart from its kids, are such
// as its kind asks for; those that it does not have are zero.
func hasFields(node api.Node) bool {
	return hasName(node.Kind, node.Name) && hasText(node.Kind, node.Str) &&
		hasNumber(node.Kind, node.N) && hasBig(node.Kind, node.B)
}

func hasName(kind int, s string) bool {
	switch kind {
	case Decl, Label, Func, Param, Name:
		return isShort(s) && lex.Name(s)
	case Break, Continue, Catch, Function:
		return s == "" || isShort(s) && lex.Name(s)
	case Dot:
		// Words of both kinds are made as names are.
		return isShort(s) && (lex.Name(s) || lex.Word(s) != 0)
	case Unary:
		return isUnary(s)
	case Pre, Post:
		return s == "++" || s == "--"
	case Binary:
		return isBinary(s)
	case Logic:
		return s == "&&" || s == "||" || s == "??"
	case Assign:
		return isAssign(s)
	}
	return s == ""
}

func isShort(name string) bool { return len(name) <= api.MaxText }

func isUnary(s string) bool {
	switch s {
	case "-", "+", "!", "~", "typeof", "void":
		return true
	}
	return false
}

func isBinary(s string) bool {
	switch s {
	case "+", "-", "*", "/", "%", "&", "|", "^", "<<", ">>", ">>>",
		"<", ">", "<=", ">=", "==", "!=", "===", "!==", "in":
		return true
	}
	return false
}

func isAssign(s string) bool {
	switch s {
	case "=", "+=", "-=", "*=", "/=", "%=", "&=", "|=", "^=", "<<=", ">>=", ">>>=":
		return true
	}
	return false
}

func hasText(kind int, u []uint16) bool {
	if kind == String || kind == Prop {
		return len(u) <= api.MaxText
	}
	return len(u) == 0
}

func hasNumber(kind int, n api.Num) bool {
	if kind == Number {
		return num.May(n) && n.Kind == api.NWhole && n.N >= 0
	}
	return n == api.Num{}
}

func hasBig(kind int, b api.Big) bool {
	if kind == Big {
		return big.May(b) && !b.Neg
	}
	return !b.Neg && len(b.Mag) == 0
}
