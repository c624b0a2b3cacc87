package tree

import (
	"slices"
	"strconv"
	"strings"

	"rendezvous/api"
	"rendezvous/lex"
	"rendezvous/text"
)

// reader reads sources by the grammar of chapter 7, and panics where one does
// not follow it. It takes more than the grammar does, but what follows the
// grammar it reads as this says.
type reader struct {
	tokens []api.Token
	at     int
}

// readTree returns the tree of a source, and whether there is one.
func readTree(u []uint16) (t api.Tree, ok bool) {
	tokens, _, errno := lex.Tokens(u)
	if errno != api.OK {
		return api.Tree{}, false
	}
	defer func() {
		if recover() != nil {
			t, ok = api.Tree{}, false
		}
	}()
	r := &reader{tokens: tokens}
	var list []sub
	for r.now().Kind != api.TEnd {
		list = append(list, r.statement(true))
	}
	return program(list...), true
}

func (r *reader) now() api.Token { return r.tokens[r.at] }

func (r *reader) is(list string) bool { return r.isAt(r.at, list) }

// isAt tells whether a token is one of the signs and words of a list.
func (r *reader) isAt(at int, list string) bool {
	if at >= len(r.tokens) {
		return false
	}
	t := r.tokens[at]
	return (t.Kind == api.TSign || t.Kind == api.TWord) && slices.Contains(strings.Fields(list), t.Text)
}

func (r *reader) take(sign string) bool {
	if !r.is(sign) {
		return false
	}
	r.at++
	return true
}

func (r *reader) must(signs ...string) {
	for _, sign := range signs {
		if !r.take(sign) {
			panic("another token")
		}
	}
}

func (r *reader) isName() bool { return r.now().Kind == api.TName }

func (r *reader) name() string {
	if !r.isName() {
		panic("no name")
	}
	r.at++
	return r.tokens[r.at-1].Text
}

func (r *reader) end() {
	if t := r.now(); !r.take(";") && !t.Nl && t.Kind != api.TEnd && !r.is("}") {
		panic("no end")
	}
}

func (r *reader) statement(mayDeclare bool) sub {
	t := r.now()
	if t.Kind == api.TName && r.isAt(r.at+1, ":") {
		r.at += 2
		return named(Label, t.Text, r.statement(false))
	}
	if r.is("{") {
		return r.block()
	}
	if t.Kind != api.TWord && !r.is(";") {
		e := r.assign()
		r.end()
		return a(Expr, e)
	}
	if !mayDeclare && r.is("let const function") {
		panic("a declaration")
	}
	r.at++
	switch t.Text {
	case ";":
		return a(Empty)
	case "let", "const":
		s := r.declaration(t.Text)
		r.end()
		return s
	case "function":
		return named(Func, r.name(), append(r.params(), r.block())...)
	case "if":
		s := a(If, r.enclosed(), r.statement(false))
		if r.take("else") {
			s.kids = append(s.kids, r.statement(false))
		}
		return s
	case "while":
		return a(While, r.enclosed(), r.statement(false))
	case "for":
		return r.loop()
	case "try":
		return r.try()
	case "break", "continue", "return", "throw":
		return r.jump(t.Text)
	}
	r.at--
	e := r.assign()
	r.end()
	return a(Expr, e)
}

func (r *reader) jump(word string) sub {
	s := a(map[string]int{"break": Break, "continue": Continue, "return": Return, "throw": Throw}[word])
	isLast := r.now().Nl || r.now().Kind == api.TEnd || r.is("; }")
	switch {
	case word == "throw" || word == "return" && !isLast:
		s.kids = []sub{r.assign()}
	case !isLast:
		s.node.Name = r.name()
	}
	r.end()
	return s
}

func (r *reader) enclosed() sub {
	r.must("(")
	e := r.assign()
	r.must(")")
	return e
}

func (r *reader) block() sub {
	s := a(Block)
	for r.must("{"); !r.take("}"); {
		s.kids = append(s.kids, r.statement(true))
	}
	return s
}

func (r *reader) declaration(word string) sub {
	s := a(map[string]int{"let": Let, "const": Const}[word])
	for len(s.kids) == 0 || r.take(",") {
		decl := named(Decl, r.name())
		if r.take("=") {
			decl.kids = []sub{r.assign()}
		}
		s.kids = append(s.kids, decl)
	}
	return s
}

func (r *reader) loop() sub {
	r.must("(")
	s := a(For)
	for i, sign := range []string{";", ";", ")"} {
		kid := a(Nothing)
		switch {
		case i == 0 && r.is("let const"):
			r.at++
			kid = r.declaration(r.tokens[r.at-1].Text)
		case !r.is(sign):
			kid = r.assign()
		}
		s.kids = append(s.kids, kid)
		r.must(sign)
	}
	s.kids = append(s.kids, r.statement(false))
	return s
}

func (r *reader) try() sub {
	s := a(Try, r.block(), a(Nothing), a(Nothing))
	if r.take("catch") {
		name := ""
		if r.take("(") {
			name = r.name()
			r.must(")")
		}
		s.kids[1] = named(Catch, name, r.block())
	}
	if r.take("finally") {
		s.kids[2] = r.block()
	}
	return s
}

func (r *reader) params() []sub {
	list := []sub{}
	r.must("(")
	for !r.is(")") && (len(list) == 0 || r.take(",")) {
		list = append(list, named(Param, r.name()))
	}
	r.must(")")
	return list
}

// isArrow looks for params, and what is behind them.
func (r *reader) isArrow() bool {
	at := r.at
	defer func() {
		recover()
		r.at = at
	}()
	if r.isName() {
		return r.isAt(at+1, "=>")
	}
	r.params()
	return r.is("=>")
}

func (r *reader) assign() sub {
	if r.isArrow() {
		s := a(Arrow)
		if r.isName() {
			s.kids = []sub{named(Param, r.name())}
		} else {
			s.kids = r.params()
		}
		r.must("=>")
		if r.is("{") {
			s.kids = append(s.kids, r.block())
		} else {
			s.kids = append(s.kids, r.assign())
		}
		return s
	}
	left := r.pair(0)
	switch {
	case r.take("?"):
		yes := r.assign()
		r.must(":")
		return a(Cond, left, yes, r.assign())
	case r.is(setSigns) && slices.Contains(targetKinds, left.node.Kind):
		sign := r.now().Text
		r.at++
		return named(Assign, sign, left, r.assign())
	}
	return left
}

func (r *reader) pair(level int) sub {
	levels := []string{"??", "||", "&&", "|", "^", "&", "== != === !==", "< > <= >= in", "<< >> >>>", "+ -", "* / %"}
	if level == len(levels) {
		return r.prefix()
	}
	left := r.pair(level + 1)
	for r.is(levels[level]) {
		kind, sign := Binary, r.now().Text
		if level < 3 {
			kind = Logic
		}
		r.at++
		left = named(kind, sign, left, r.pair(level+1))
	}
	return left
}

func (r *reader) prefix() sub {
	sign := r.now().Text
	switch {
	case r.is(unarySigns):
		r.at++
		return named(Unary, sign, r.prefix())
	case r.is(stepSigns):
		r.at++
		return named(Pre, sign, r.prefix())
	}
	e := r.member(true)
	if sign = r.now().Text; r.is(stepSigns) && !r.now().Nl {
		r.at++
		return named(Post, sign, e)
	}
	return e
}

// member reads what stands in front of dots, indexes and calls, and these; a
// New takes no calls for its own.
func (r *reader) member(mayCall bool) sub {
	var e sub
	if r.take("new") {
		e = a(New, r.member(false))
		if r.is("(") {
			e.kids = append(e.kids, r.arguments()...)
		}
	} else {
		e = r.primary()
	}
	for {
		switch {
		case r.take("."):
			if t := r.now(); t.Kind != api.TName && t.Kind != api.TWord {
				panic("no name")
			}
			e = named(Dot, r.now().Text, e)
			r.at++
		case r.take("["):
			e = a(Index, e, r.assign())
			r.must("]")
		case mayCall && r.is("("):
			e = a(Call, append([]sub{e}, r.arguments()...)...)
		default:
			return e
		}
	}
}

func (r *reader) arguments() []sub {
	r.must("(")
	list := r.list(")", r.assign)
	r.must(")")
	return list
}

func (r *reader) list(end string, one func() sub) []sub {
	list := []sub{}
	for !r.is(end) && (len(list) == 0 || r.take(",")) {
		list = append(list, one())
	}
	return list
}

func (r *reader) primary() sub {
	t := r.now()
	r.at++
	switch t.Kind {
	case api.TNumber:
		return number(t.N.N)
	case api.TBig:
		return sub{node: api.Node{Kind: Big, B: t.B}}
	case api.TString:
		return str(t.Str...)
	case api.TName:
		return id(t.Text)
	}
	switch t.Text {
	case "true", "false", "null", "this":
		return a(map[string]int{"true": True, "false": False, "null": Null, "this": This}[t.Text])
	case "[":
		s := a(Array, r.list("]", r.assign)...)
		r.must("]")
		return s
	case "{":
		s := a(Object, r.list("}", r.prop)...)
		r.must("}")
		return s
	case "(":
		r.at--
		return r.enclosed()
	case "function":
		name := ""
		if r.isName() {
			name = r.name()
		}
		return named(Function, name, append(r.params(), r.block())...)
	}
	panic("no expression")
}

func (r *reader) prop() sub {
	t := r.now()
	key := text.Ascii(t.Text)
	switch t.Kind {
	case api.TString:
		key = t.Str
	case api.TNumber:
		key = text.Ascii(strconv.Itoa(t.N.N))
	case api.TName:
		if !r.isAt(r.at+1, ":") {
			return prop(r.name(), id(t.Text))
		}
	case api.TWord:
	default:
		panic("no key")
	}
	r.at++
	r.must(":")
	return sub{api.Node{Kind: Prop, Str: key}, []sub{r.assign()}}
}
