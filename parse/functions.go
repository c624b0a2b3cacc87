package parse

import (
	"rendezvous/api"
	"rendezvous/tree"
)

// function reads a Func or a Function, whose name is read as its kind asks for.
func (p *parser) function(kind int, name func() string) branch {
	p.pop()
	function := named(kind, name())
	function.kids = append(p.params(), p.block())
	return function
}

// maybe takes a name, if there is one.
func (p *parser) maybe() string {
	if !p.isName() {
		return ""
	}
	return p.name()
}

func (p *parser) params() []branch {
	p.must("(")
	return p.list(")", p.param)
}

func (p *parser) param() branch { return named(tree.Param, p.name()) }

// isArrow reports whether an arrow begins here: whether there are a name or
// params, and the sign of an arrow behind them.
func (p *parser) isArrow() bool {
	if p.isName() {
		return p.isAhead("=>")
	}
	if !p.is("(") {
		return false
	}
	rest := p.tokens[p.next+1:]
	if rest[0].Kind == api.TName {
		rest = rest[1:]
		for rest[0].Text == "," && rest[1].Kind == api.TName {
			rest = rest[2:]
		}
	}
	return rest[0].Text == ")" && rest[1].Text == "=>"
}

func (p *parser) arrow() branch {
	var kids []branch
	if p.isName() {
		kids = []branch{p.param()}
	} else {
		kids = p.params()
	}
	if p.now().Nl {
		return p.refuse()
	}
	p.must("=>")
	if p.is("{") {
		return of(tree.Arrow, append(kids, p.block())...)
	}
	return of(tree.Arrow, append(kids, p.assign())...)
}
