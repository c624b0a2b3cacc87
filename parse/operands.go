package parse

import (
	"strconv"

	"rendezvous/api"
	"rendezvous/tree"
)

// head reads what the dots, the indexes and the calls of an operand stand behind.
func (p *parser) head() branch {
	if p.take("new") {
		return p.construction()
	}
	return p.primary()
}

// construction reads a New behind its word. The first arguments are its own.
func (p *parser) construction() branch {
	e := p.links(p.head(), false)
	if p.is("(") {
		return of(tree.New, p.called(e)...)
	}
	return of(tree.New, e)
}

func (p *parser) primary() branch {
	token := p.now()
	switch token.Kind {
	case api.TNumber:
		p.pop()
		return branch{node: api.Node{Kind: tree.Number, N: token.N}}
	case api.TBig:
		p.pop()
		return branch{node: api.Node{Kind: tree.Big, B: token.B}}
	case api.TString:
		p.pop()
		return branch{node: api.Node{Kind: tree.String, Str: token.Str}}
	case api.TName:
		return named(tree.Name, p.name())
	}
	switch token.Text {
	case "true":
		return p.constant(tree.True)
	case "false":
		return p.constant(tree.False)
	case "null":
		return p.constant(tree.Null)
	case "this":
		return p.constant(tree.This)
	case "[":
		p.pop()
		return of(tree.Array, p.list("]", p.assign)...)
	case "{":
		p.pop()
		return of(tree.Object, p.list("}", p.prop)...)
	case "function":
		return p.function(tree.Function, p.maybe)
	case "(":
		return p.enclosed()
	case "/", "/=":
		// Here they begin a regular expression, which is not supported.
		return p.fail(api.ErrSubset)
	}
	return p.refuse()
}

// constant reads a word that is an expression.
func (p *parser) constant(kind int) branch {
	p.pop()
	return of(kind)
}

func (p *parser) prop() branch {
	if p.isName() && !p.isAhead(":") {
		name := p.name()
		return property(units(name), named(tree.Name, name))
	}
	key := p.key()
	p.must(":")
	return property(key, p.assign())
}

func property(key []uint16, e branch) branch {
	return branch{api.Node{Kind: tree.Prop, Str: key}, []branch{e}}
}

func (p *parser) key() []uint16 {
	switch token := p.now(); token.Kind {
	case api.TString:
		p.pop()
		return token.Str
	case api.TNumber:
		p.pop()
		// The digits of a number are written in one way only.
		return units(strconv.Itoa(token.N.N))
	}
	return units(p.member())
}

// units returns the units of digits, letters, or both.
func units(s string) []uint16 {
	u := make([]uint16, len(s))
	for i := range len(s) {
		u[i] = uint16(s[i])
	}
	return u
}
