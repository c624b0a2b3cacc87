package tree

import (
	"math/rand"
	"slices"
	"strings"

	"rendezvous/api"
	"rendezvous/text"
)

// sub is a node with what is inside it, from which the list of nodes is made.
type sub struct {
	node api.Node
	kids []sub
}

// a makes a node of a kind, and named one that has a name.
func a(kind int, kids ...sub) sub { return sub{api.Node{Kind: kind}, kids} }

func named(kind int, name string, kids ...sub) sub {
	return sub{api.Node{Kind: kind, Name: name}, kids}
}

func number(n int) sub { return sub{node: api.Node{Kind: Number, N: api.Num{N: n}}} }

func bigInt(mag ...uint32) sub { return sub{node: api.Node{Kind: Big, B: api.Big{Mag: mag}}} }

func str(u ...uint16) sub { return sub{node: api.Node{Kind: String, Str: u}} }

func prop(key string, e sub) sub {
	return sub{api.Node{Kind: Prop, Str: text.Ascii(key)}, []sub{e}}
}

func id(name string) sub { return named(Name, name) }

// laid lays nodes out in the order in which they are met.
func laid(s sub) api.Tree {
	var nodes []api.Node
	var lay func(s sub)
	lay = func(s sub) {
		n := len(nodes)
		nodes = append(nodes, s.node)
		kids := []int{}
		for _, kid := range s.kids {
			kids = append(kids, len(nodes))
			lay(kid)
		}
		nodes[n].Kids = kids
	}
	lay(s)
	return api.Tree{Nodes: nodes}
}

// part is a node of a tree that is laid out, with what is inside it.
func part(t api.Tree, n int) sub {
	s := sub{node: t.Nodes[n]}
	for _, kid := range s.node.Kids {
		s.kids = append(s.kids, part(t, kid))
	}
	s.node.Kids = nil
	return s
}

func program(statements ...sub) api.Tree { return laid(a(Program, statements...)) }

// of returns an expression, or another node, in a tree in which it has its place.
func of(s sub) api.Tree {
	switch kind := s.node.Kind; {
	case kind == Program:
		return laid(s)
	case kind == Decl:
		return program(a(Let, s))
	case kind == Nothing:
		return program(a(For, s, a(Nothing), a(Nothing), a(Empty)))
	case kind == Catch:
		return program(a(Try, a(Block), s, a(Nothing)))
	case kind == Param:
		return program(named(Func, "f", s, a(Block)))
	case kind == Prop:
		return program(a(Expr, a(Object, s)))
	case slices.Contains(expressionKinds, kind):
		return program(a(Expr, s))
	}
	return program(s)
}

// common is a good node of each kind, with what is inside it; a bare one of its
// kind where there is none.
func common(kind int) sub {
	name := map[int]string{Decl: "x", Label: "l", Func: "f", Param: "p", Name: "a", Unary: "-", Pre: "++", Post: "--", Binary: "+", Logic: "&&", Assign: "=", Dot: "if"}[kind]
	e, block := a(Null), a(Block)
	var kids []sub
	switch kind {
	case Expr, Throw, Prop, Unary, Dot, Call, New:
		kids = []sub{e}
	case Let, Const:
		kids = []sub{named(Decl, "x")}
	case If, While:
		kids = []sub{e, a(Empty)}
	case For:
		kids = []sub{a(Nothing), a(Nothing), a(Nothing), a(Empty)}
	case Try:
		kids = []sub{block, a(Catch, block), a(Nothing)}
	case Catch, Func, Function, Arrow:
		kids = []sub{block}
	case Label:
		kids = []sub{a(Empty)}
	case Pre, Post:
		kids = []sub{id("a")}
	case Assign:
		kids = []sub{id("a"), e}
	case Binary, Logic, Index:
		kids = []sub{e, e}
	case Cond:
		kids = []sub{e, e, e}
	}
	return named(kind, name, kids...)
}

// copied is a tree that shares nothing with t.
func copied(t api.Tree) api.Tree {
	nodes := slices.Clone(t.Nodes)
	for i := range nodes {
		nodes[i].Str = slices.Clone(nodes[i].Str)
		nodes[i].B.Mag = slices.Clone(nodes[i].B.Mag)
		nodes[i].Kids = slices.Clone(nodes[i].Kids)
	}
	return api.Tree{Nodes: nodes}
}

// maker makes random good trees.
type maker struct{ *rand.Rand }

func (r maker) word(list string) string {
	all := strings.Fields(list)
	return all[r.Intn(len(all))]
}

func (r maker) name() string { return r.word("a b x1 $ _ of Object get undefined") }

// maybe is a name, or none.
func (r maker) maybe() string {
	if r.Intn(2) == 0 {
		return ""
	}
	return r.name()
}

func (r maker) units() []uint16 {
	u := make([]uint16, r.Intn(5))
	for i := range u {
		u[i] = uint16(r.Intn(1 << []int{7, 7, 7, 8, 16}[r.Intn(5)]))
	}
	return u
}

func (r maker) many(least, most int, make func() sub) []sub {
	list := []sub{}
	for range least + r.Intn(most-least+1) {
		list = append(list, make())
	}
	return list
}

func (r maker) program(nest int) api.Tree {
	return program(r.statements(nest)...)
}

func (r maker) statements(nest int) []sub {
	return r.many(0, 4, func() sub { return r.statement(nest, statementKinds) })
}

func (r maker) block(nest int) sub { return a(Block, r.statements(nest-1)...) }

func (r maker) body(nest int) sub { return r.statement(nest, bodyKinds) }

func (r maker) statement(nest int, kinds []int) sub {
	kind := kinds[r.Intn(len(kinds))]
	if nest <= 0 {
		kind = Empty
	}
	nest--
	e := func() sub { return r.expression(nest) }
	switch kind {
	case Expr, Throw:
		return a(kind, e())
	case Block:
		return a(kind, r.statements(nest)...)
	case Let, Const:
		return r.declaration(kind, nest)
	case If:
		return r.choice(nest)
	case While:
		return a(kind, e(), r.body(nest))
	case For:
		return a(kind, r.start(nest), r.part(nest), r.part(nest), r.body(nest))
	case Break, Continue:
		return named(kind, r.maybe())
	case Return:
		return a(kind, r.many(0, 1, e)...)
	case Try:
		return r.try(nest)
	case Label:
		return named(kind, r.name(), r.body(nest))
	case Func:
		return named(kind, r.name(), append(r.params(), r.block(nest))...)
	}
	return a(Empty)
}

func (r maker) declaration(kind, nest int) sub {
	return a(kind, r.many(1, 3, func() sub {
		return named(Decl, r.name(), r.many(0, 1, func() sub { return r.expression(nest) })...)
	})...)
}

// choice is an If; what ends with one without an else is put into a Block.
func (r maker) choice(nest int) sub {
	s := a(If, r.expression(nest), r.body(nest))
	if r.Intn(2) == 0 {
		return s
	}
	if endsShort(laid(s.kids[1]), 0) {
		s.kids[1] = a(Block, s.kids[1])
	}
	s.kids = append(s.kids, r.body(nest))
	return s
}

func (r maker) part(nest int) sub {
	if r.Intn(2) == 0 {
		return a(Nothing)
	}
	return r.expression(nest)
}

func (r maker) start(nest int) sub {
	if r.Intn(2) == 0 {
		return r.declaration(Let+r.Intn(2), nest)
	}
	return r.part(nest)
}

func (r maker) try(nest int) sub {
	catch, finally := named(Catch, r.maybe(), r.block(nest)), r.block(nest)
	switch r.Intn(3) {
	case 0:
		catch = a(Nothing)
	case 1:
		finally = a(Nothing)
	}
	return a(Try, r.block(nest), catch, finally)
}

func (r maker) params() []sub {
	return r.many(0, 3, func() sub { return named(Param, r.name()) })
}

func (r maker) expression(nest int) sub {
	kind := expressionKinds[r.Intn(len(expressionKinds))]
	if nest <= 0 {
		kind = Number + r.Intn(8)
	}
	nest--
	e := func() sub { return r.expression(nest) }
	switch kind {
	case Number:
		return number(r.Intn(1 << r.Intn(54)))
	case Big:
		mag := make([]uint32, r.Intn(9))
		for i := range mag {
			mag[i] = r.Uint32() | 1
		}
		return bigInt(mag...)
	case String:
		return str(r.units()...)
	case Name:
		return id(r.name())
	case Array:
		return a(kind, r.many(0, 3, e)...)
	case Object:
		return a(kind, r.many(0, 3, func() sub { return sub{api.Node{Kind: Prop, Str: r.units()}, []sub{e()}} })...)
	case Function:
		return named(kind, r.maybe(), append(r.params(), r.block(nest))...)
	case Arrow:
		if r.Intn(2) == 0 {
			return a(kind, append(r.params(), r.block(nest))...)
		}
		return a(kind, append(r.params(), e())...)
	case Call, New:
		return a(kind, r.many(1, 4, e)...)
	}
	return r.operator(kind, nest, e)
}

func (r maker) operator(kind, nest int, e func() sub) sub {
	switch kind {
	case Unary:
		return named(kind, r.word(unarySigns), e())
	case Pre, Post:
		return named(kind, r.word(stepSigns), r.target(nest))
	case Binary:
		return named(kind, r.word(pairSigns), e(), e())
	case Logic:
		return named(kind, r.word(logicSigns), e(), e())
	case Cond:
		return a(kind, e(), e(), e())
	case Assign:
		return named(kind, r.word(setSigns), r.target(nest), e())
	case Dot:
		return named(kind, r.word(words+" a b $1 of"), e())
	case Index:
		return a(kind, e(), e())
	}
	return a(kind)
}

func (r maker) target(nest int) sub {
	kind := targetKinds[r.Intn(3)]
	if nest <= 0 || kind == Name {
		return id(r.name())
	}
	return r.operator(kind, nest-1, func() sub { return r.expression(nest - 1) })
}

// Trees are random good trees, few of which are great.
func Trees(seed int64, count int) []api.Tree {
	r, list := maker{rand.New(rand.NewSource(seed))}, []api.Tree{}
	for len(list) < count {
		if t := r.program(1 + r.Intn(6)); len(t.Nodes) <= 300 {
			list = append(list, t)
		}
	}
	return list
}
