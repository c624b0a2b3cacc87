package parse

import "rendezvous/tree"

func (p *parser) program() branch {
	program := of(tree.Program, p.statements()...)
	if !p.isEnd() {
		p.refuse()
	}
	return program
}

// statements reads those of a Program or a Block.
func (p *parser) statements() []branch {
	list := []branch{}
	for !p.isEnd() && !p.is("}") {
		list = append(list, p.statement())
	}
	return list
}

// statement reads one of a Program or a Block.
func (p *parser) statement() branch {
	switch p.now().Text {
	case "let", "const":
		return p.ended(p.declaration())
	case "function":
		return p.function(tree.Func, p.name)
	}
	return p.body()
}

// body reads a statement that may also be one of If, While, For and Label.
func (p *parser) body() branch {
	switch p.now().Text {
	case "let", "const", "function":
		return p.refuse()
	case ";":
		p.pop()
		return of(tree.Empty)
	case "{":
		return p.block()
	case "if":
		return p.choice()
	case "while":
		p.pop()
		return of(tree.While, p.enclosed(), p.body())
	case "for":
		return p.loop()
	case "break":
		return p.jump(tree.Break)
	case "continue":
		return p.jump(tree.Continue)
	case "return":
		return p.result()
	case "throw":
		return p.throw()
	case "try":
		return p.try()
	}
	if p.isName() && p.isAhead(":") {
		return p.label()
	}
	return p.ended(of(tree.Expr, p.assign()))
}

// ended reads the end of a statement.
func (p *parser) ended(s branch) branch {
	if !p.take(";") && !p.mayEnd() {
		return p.refuse()
	}
	return s
}

// mayEnd reports whether a statement may end ahead of the token without a sign for it.
func (p *parser) mayEnd() bool {
	return p.now().Nl || p.is("}") || p.isEnd()
}

func (p *parser) block() branch {
	p.must("{")
	block := of(tree.Block, p.statements()...)
	p.must("}")
	return block
}

// declaration reads a Let or Const up to its end, which in a For is another one.
func (p *parser) declaration() branch {
	kind := tree.Let
	if p.pop().Text == "const" {
		kind = tree.Const
	}
	decls := []branch{p.decl()}
	for p.take(",") {
		decls = append(decls, p.decl())
	}
	return of(kind, decls...)
}

func (p *parser) decl() branch {
	decl := named(tree.Decl, p.name())
	if p.take("=") {
		decl.kids = []branch{p.assign()}
	}
	return decl
}

// enclosed reads an E in parentheses.
func (p *parser) enclosed() branch {
	p.must("(")
	e := p.assign()
	p.must(")")
	return e
}

func (p *parser) choice() branch {
	p.pop()
	s := of(tree.If, p.enclosed(), p.body())
	if p.take("else") {
		s.kids = append(s.kids, p.body())
	}
	return s
}

func (p *parser) loop() branch {
	p.pop()
	p.must("(")
	first := p.first()
	second := p.part(";")
	third := p.part(")")
	return of(tree.For, first, second, third, p.body())
}

// first reads what stands ahead of the first sign between the parentheses of a For.
func (p *parser) first() branch {
	if !p.is("let", "const") {
		return p.part(";")
	}
	s := p.declaration()
	p.must(";")
	return s
}

// part reads an E that may be missing, and the sign behind it.
func (p *parser) part(end string) branch {
	if p.take(end) {
		return of(tree.Nothing)
	}
	e := p.assign()
	p.must(end)
	return e
}

func (p *parser) jump(kind int) branch {
	p.pop()
	s := of(kind)
	if p.isName() && !p.now().Nl {
		s.node.Name = p.name()
	}
	return p.ended(s)
}

func (p *parser) result() branch {
	p.pop()
	s := of(tree.Return)
	if !p.is(";") && !p.mayEnd() {
		s.kids = []branch{p.assign()}
	}
	return p.ended(s)
}

func (p *parser) throw() branch {
	p.pop()
	if p.now().Nl {
		return p.refuse()
	}
	return p.ended(of(tree.Throw, p.assign()))
}

func (p *parser) try() branch {
	p.pop()
	block, catch, finally := p.block(), of(tree.Nothing), of(tree.Nothing)
	hasCatch := p.take("catch")
	if hasCatch {
		catch = p.catch()
	}
	switch {
	case p.take("finally"):
		finally = p.block()
	case !hasCatch:
		return p.refuse()
	}
	return of(tree.Try, block, catch, finally)
}

// catch reads a Catch behind its word.
func (p *parser) catch() branch {
	name := ""
	if p.take("(") {
		name = p.name()
		p.must(")")
	}
	return named(tree.Catch, name, p.block())
}

func (p *parser) label() branch {
	name := p.name()
	p.must(":")
	return named(tree.Label, name, p.body())
}
