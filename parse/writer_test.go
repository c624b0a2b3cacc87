package parse_test

import (
	"math/rand"
	"strconv"
	"strings"
	"testing"

	"rendezvous/api"
	"rendezvous/lex"
	"rendezvous/parse"
	"rendezvous/tree"
)

// Levels of expressions, the loosest first. Between bits and prefix lie those of
// the operators that are tighter than |.
const (
	lowest    = 0 // Arrow and Assign
	condition = 1
	either    = 2
	or        = 3
	and       = 4
	bits      = 5
	prefix    = 13
	postfix   = 14
	bareNew   = 15 // New without parentheses
	call      = 16 // Call, and what is behind one
	member    = 17
	primary   = 18
)

var binarySigns = []string{"|", "^", "&", "== != === !==", "< > <= >= in", "<< >> >>>", "+ -", "* / %"}

// piece is a token as it is written, or END or BARE: the end of a statement,
// behind an expression or not. Ahead of what is glued no line may end.
type piece struct {
	text  string
	glued bool
}

// made is a part of a random tree, with one way to write it.
type made struct {
	node  api.Node
	kids  []made
	text  []piece
	level int
}

// build makes a node of its kids, and of the tokens between them.
func build(level, kind int, name string, parts ...any) made {
	m := made{node: api.Node{Kind: kind, Name: name}, level: level}
	m.add(parts)
	return m
}

func (m *made) add(parts []any) {
	for _, part := range parts {
		switch part := part.(type) {
		case string:
			for _, token := range strings.Fields(part) {
				m.text = append(m.text, piece{text: token})
			}
		case piece:
			m.text = append(m.text, part)
		case made:
			m.kids = append(m.kids, part)
			m.text = append(m.text, part.text...)
		case []any:
			m.add(part)
		}
	}
}

// glued is what no line may end ahead of.
func glued(m made) made {
	m.text = append([]piece{{m.text[0].text, true}}, m.text[1:]...)
	return m
}

func enclosed(m made) made {
	m.text = append(append([]piece{{text: "("}}, m.text...), piece{text: ")"})
	m.level = primary
	return m
}

// writer makes random trees, and writes them in random ways.
type writer struct{ *rand.Rand }

func (r writer) one(list ...string) string {
	all := strings.Fields(strings.Join(list, " "))
	return all[r.Intn(len(all))]
}

func (r writer) name() string { return r.one("a b x1 $ _ of get undefined") }

func (r writer) isRare() bool { return r.Intn(8) == 0 }

// many is a list of up to three, with a sign between them.
func (r writer) many(sign string, one func() made) []any {
	list := []any{}
	for i := range r.Intn(4) {
		if i > 0 {
			list = append(list, sign)
		}
		list = append(list, one())
	}
	return list
}

func (r writer) statement(nest int) made {
	if nest > 0 && r.Intn(5) == 0 {
		return build(0, tree.Func, r.name(), r.function(nest)...).headed("function")
	}
	if nest > 0 && r.Intn(4) == 0 {
		s := r.declaration(nest)
		s.text = append(s.text, piece{text: "END"})
		if last := s.kids[len(s.kids)-1]; len(last.kids) == 0 {
			s.text[len(s.text)-1].text = "BARE"
		}
		return s
	}
	return r.body(nest)
}

// headed has a word, and the name if there is one, in front.
func (m made) headed(word string) made {
	head := []piece{{text: word}}
	if m.node.Name != "" {
		head = append(head, piece{text: m.node.Name})
	}
	m.text = append(head, m.text...)
	return m
}

func (r writer) declaration(nest int) made {
	s := build(0, tree.Let, "", r.one("let const"))
	if s.text[0].text == "const" {
		s.node.Kind = tree.Const
	}
	for i := range 1 + r.Intn(3) {
		if i > 0 {
			s.add([]any{","})
		}
		name := r.name()
		decl := build(0, tree.Decl, name, name)
		if r.Intn(2) == 0 {
			decl = build(0, tree.Decl, name, name, "=", r.e(nest-1))
		}
		s.add([]any{decl})
	}
	return s
}

func (r writer) block(nest int) made {
	return build(0, tree.Block, "", "{", r.many("", func() made { return r.statement(nest - 1) }), "}")
}

// function is what stands behind its name.
func (r writer) function(nest int) []any {
	return []any{"(", r.many(",", r.param), ")", r.block(nest - 1)}
}

func (r writer) param() made {
	name := r.name()
	return build(0, tree.Param, name, name)
}

func (r writer) body(nest int) made {
	if nest <= 0 {
		return build(0, tree.Empty, "", ";")
	}
	nest--
	switch r.Intn(12) {
	case 0:
		return build(0, tree.Empty, "", ";")
	case 1:
		return r.block(nest)
	case 2:
		return build(0, tree.If, "", "if (", r.e(nest), ")", r.body(nest))
	case 3:
		first := r.body(nest)
		if endsShort(first) {
			first = build(0, tree.Block, "", "{", first, "}")
		}
		return build(0, tree.If, "", "if (", r.e(nest), ")", first, "else", r.body(nest))
	case 4:
		return build(0, tree.While, "", "while (", r.e(nest), ")", r.body(nest))
	case 5:
		return build(0, tree.For, "", "for (", r.first(nest), ";", r.part(nest), ";", r.part(nest), ")", r.body(nest))
	case 6:
		return r.jump(r.one("break continue"))
	case 7:
		if r.Intn(2) == 0 {
			return build(0, tree.Return, "", "return BARE")
		}
		return build(0, tree.Return, "", "return", glued(r.e(nest)), "END")
	case 8:
		return build(0, tree.Throw, "", "throw", glued(r.e(nest)), "END")
	case 9:
		return r.try(nest)
	case 10:
		name := r.name()
		return build(0, tree.Label, name, name, ":", r.body(nest))
	}
	e := r.e(nest)
	if first := e.text[0].text; first == "{" || first == "function" {
		e = enclosed(e)
	}
	return build(0, tree.Expr, "", e, "END")
}

// endsShort tells whether a statement ends with an If without an else.
func endsShort(s made) bool {
	switch s.node.Kind {
	case tree.If, tree.While, tree.For, tree.Label:
		last := len(s.kids) - 1
		return s.node.Kind == tree.If && last == 1 || endsShort(s.kids[last])
	}
	return false
}

func (r writer) first(nest int) made {
	if r.Intn(2) == 0 {
		return r.declaration(nest)
	}
	return r.part(nest)
}

func (r writer) part(nest int) made {
	if r.Intn(2) == 0 {
		return build(0, tree.Nothing, "")
	}
	return r.e(nest)
}

func (r writer) jump(word string) made {
	kind := map[string]int{"break": tree.Break, "continue": tree.Continue}[word]
	if r.Intn(2) == 0 {
		return build(0, kind, "", word, "BARE")
	}
	name := r.name()
	return build(0, kind, name, word, piece{name, true}, "BARE")
}

func (r writer) try(nest int) made {
	nothing := build(0, tree.Nothing, "")
	catch := build(0, tree.Catch, "", "catch", r.block(nest))
	if r.Intn(2) == 0 {
		name := r.name()
		catch = build(0, tree.Catch, name, "catch (", name, ")", r.block(nest))
	}
	switch r.Intn(3) {
	case 0:
		return build(0, tree.Try, "", "try", r.block(nest), catch, nothing)
	case 1:
		return build(0, tree.Try, "", "try", r.block(nest), nothing, "finally", r.block(nest))
	}
	return build(0, tree.Try, "", "try", r.block(nest), catch, "finally", r.block(nest))
}

// e is any expression.
func (r writer) e(nest int) made { return r.least(lowest, nest) }

// least is an expression that is of a level, or in parentheses.
func (r writer) least(level, nest int) made {
	e := r.expression(nest)
	if e.level < level || r.isRare() {
		return enclosed(e)
	}
	return e
}

func (r writer) expression(nest int) made {
	if nest <= 0 || r.isRare() {
		return r.value()
	}
	nest--
	e := func() made { return r.e(nest) }
	switch r.Intn(16) {
	case 0:
		return build(primary, tree.Array, "", "[", r.many(",", e), "]")
	case 1:
		return build(primary, tree.Object, "", "{", r.many(",", func() made { return r.prop(nest) }), "}")
	case 2:
		return build(primary, tree.Function, "", r.function(nest)...).headed("function")
	case 3:
		return build(primary, tree.Function, r.name(), r.function(nest)...).headed("function")
	case 4:
		return r.arrow(nest)
	case 5:
		sign := r.one("- + ! ~ typeof void")
		return build(prefix, tree.Unary, sign, sign, r.least(prefix, nest))
	case 6:
		sign := r.one("++ --")
		return build(prefix, tree.Pre, sign, sign, r.target(nest))
	case 7:
		sign := r.one("++ --")
		return build(postfix, tree.Post, sign, r.target(nest), piece{sign, true})
	case 8:
		return r.logic(nest)
	case 9, 10:
		i := r.Intn(len(binarySigns))
		sign := r.one(binarySigns[i])
		return build(bits+i, tree.Binary, sign, r.least(bits+i, nest), sign, r.least(bits+i+1, nest))
	case 11:
		return build(condition, tree.Cond, "", r.least(either, nest), "?", e(), ":", e())
	case 12:
		sign := r.one("= += -= *= /= %= &= |= ^= <<= >>= >>>=")
		return build(lowest, tree.Assign, sign, r.target(nest), sign, e())
	case 13:
		return build(call, tree.Call, "", r.least(call, nest), "(", r.many(",", e), ")")
	case 14:
		return r.construction(nest)
	}
	return r.target(nest)
}

func (r writer) arrow(nest int) made {
	params := []any{"(", r.many(",", r.param), ")"}
	if r.Intn(2) == 0 {
		params = []any{r.param()}
	}
	if r.Intn(2) == 0 {
		return build(lowest, tree.Arrow, "", params, piece{"=>", true}, r.block(nest))
	}
	e := r.e(nest)
	if e.text[0].text == "{" {
		e = enclosed(e)
	}
	return build(lowest, tree.Arrow, "", params, piece{"=>", true}, e)
}

func (r writer) logic(nest int) made {
	switch sign := r.one("?? || &&"); sign {
	case "||":
		return build(or, tree.Logic, sign, r.least(or, nest), sign, r.least(and, nest))
	case "&&":
		return build(and, tree.Logic, sign, r.least(and, nest), sign, r.least(bits, nest))
	}
	left := r.expression(nest)
	if left.level < bits && left.level != either {
		left = enclosed(left)
	}
	return build(either, tree.Logic, "??", left, "??", r.least(bits, nest))
}

func (r writer) construction(nest int) made {
	if r.Intn(2) == 0 {
		return build(member, tree.New, "", "new", r.least(member, nest), "(", r.many(",", func() made { return r.e(nest) }), ")")
	}
	e := r.expression(nest)
	if e.level < member && e.level != bareNew {
		e = enclosed(e)
	}
	return build(bareNew, tree.New, "", "new", e)
}

func (r writer) target(nest int) made {
	name := r.name()
	e := build(primary, tree.Name, name, name)
	if nest > 0 && r.Intn(3) > 0 {
		object := r.least(call, nest-1)
		name = r.one("a b of if new class yield true")
		e = build(min(member, object.level), tree.Dot, name, object, ".", name)
		if r.Intn(2) == 0 {
			e = build(min(member, object.level), tree.Index, "", object, "[", r.e(nest-1), "]")
		}
	}
	if r.isRare() {
		return enclosed(e)
	}
	return e
}

func (r writer) prop(nest int) made {
	key := r.one("a b of if class 0 17 9007199254740991 é 01 b-c")
	_, isNumber := strconv.Atoi(key)
	p := build(0, tree.Prop, "")
	switch {
	case lex.Name(key) && r.Intn(2) == 0:
		p.add([]any{build(primary, tree.Name, key, key)})
	case lex.Name(key), lex.Word(key) != 0, isNumber == nil && key != "01":
		p.add([]any{key, ":", r.e(nest)})
	default:
		p.add([]any{piece{text: r.quoted(source(key))}, ":", r.e(nest)})
	}
	p.node.Str = source(key)
	return p
}

// value is an expression of one token.
func (r writer) value() made {
	switch r.Intn(10) {
	case 0:
		word := r.one("true false null this")
		kind := map[string]int{"true": tree.True, "false": tree.False, "null": tree.Null, "this": tree.This}[word]
		return build(primary, kind, "", word)
	case 1:
		mag := [][]uint32{nil, {7}, {0, 1}}[r.Intn(3)]
		e := build(primary, tree.Big, "", map[int]string{0: "0n", 1: "7n", 2: "4294967296n"}[len(mag)])
		e.node.B.Mag = mag
		return e
	case 2:
		u := make([]uint16, r.Intn(4))
		for i := range u {
			u[i] = uint16(r.Intn(1 << []int{7, 8, 16}[r.Intn(3)]))
		}
		e := build(primary, tree.String, "", piece{text: r.quoted(u)})
		e.node.Str = u
		return e
	case 3, 4, 5:
		n := r.Intn(1 << r.Intn(54))
		e := build(primary, tree.Number, "", strconv.Itoa(n))
		e.node.N.N = n
		return e
	}
	name := r.name()
	return build(primary, tree.Name, name, name)
}

func (r writer) quoted(u []uint16) string {
	quote := r.one("' \"")
	s := quote
	for _, unit := range u {
		if c := string(rune(unit)); unit >= ' ' && unit <= '~' && c != quote && c != "\\" {
			s += c
		} else {
			s += `\u` + strconv.FormatInt(0x10000+int64(unit), 16)[1:]
		}
	}
	return s + quote
}

// joined writes pieces as a source.
func (r writer) joined(text []piece) string {
	s, last := "", ""
	for i, p := range text {
		next := ""
		if i+1 < len(text) {
			next = text[i+1].text
		}
		if p.text == "END" || p.text == "BARE" {
			s += r.end(p.text, next)
			last = ""
			continue
		}
		s += r.gap(last, p) + p.text
		last = p.text
	}
	return s
}

// end is an end of a statement ahead of a token: where that cannot go on with
// the statement, a line end is one, and where it ends a Block, nothing is.
func (r writer) end(how, next string) string {
	all := []string{";", " ; ", "\n;"}
	if next == "" || next == "}" {
		all = append(all, "", "", "\n")
	}
	goesOn := " ( [ + - ; "
	if how == "BARE" {
		goesOn = " ; "
	}
	if !strings.Contains(goesOn, " "+next+" ") {
		all = append(all, "\n", "\r\n", " // c\n", " /*\n*/ ")
	}
	return all[r.Intn(len(all))]
}

// gap is what is written between two tokens.
func (r writer) gap(last string, p piece) string {
	all := []string{" ", "  ", "\t", " /* c */ "}
	tokens, _, errno := lex.Tokens(source(last + p.text))
	if last == "" || errno == api.OK && len(tokens) == 3 && tokens[1].At == len(source(last)) {
		all = append(all, "", "", "", "", "", "")
	}
	if !p.glued {
		all = append(all, "\n", "\r", " // c\n", " /*\n*/ ")
	}
	return all[r.Intn(len(all))]
}

// laid lays nodes out in the order in which they are met.
func laid(m made) api.Tree {
	nodes := []api.Node{}
	var lay func(m made)
	lay = func(m made) {
		n := len(nodes)
		nodes = append(nodes, m.node)
		kids := []int{}
		for _, kid := range m.kids {
			kids = append(kids, len(nodes))
			lay(kid)
		}
		nodes[n].Kids = kids
	}
	lay(m)
	return api.Tree{Nodes: nodes}
}

// eachWritten calls check with so many random trees, and a source of each one.
func eachWritten(seed int64, count int, check func(want api.Tree, s string)) {
	r := writer{rand.New(rand.NewSource(seed))}
	for count > 0 {
		nest := 1 + r.Intn(6)
		program := build(0, tree.Program, "", r.many("", func() made { return r.statement(nest) }))
		if len(program.text) <= 300 {
			check(laid(program), r.joined(program.text))
			count--
		}
	}
}

// Trees that are written with no more parentheses than they need, or a few
// more, with or without ends of statements, are read as they were.
func TestP7_1_WrittenTrees(t *testing.T) {
	eachWritten(3, 10000, func(want api.Tree, s string) {
		if !tree.May(want) {
			t.Fatalf("%s is no good tree", shapes(want, []int{0}))
		}
		got, at, errno := parse.Parse(source(s))
		if errno != api.OK || at != 0 || !tree.Same(got, want) {
			t.Fatalf("Parse(%q): error %d at %d, %s; want %s", s, errno, at, shapes(got, []int{0}), shapes(want, []int{0}))
		}
	})
}

func TestP7_3_PrintedTrees(t *testing.T) {
	short := 0
	eachWritten(4, 5000, func(want api.Tree, _ string) {
		if checkPrinted(t, want) {
			short++
		}
	})
	if short < 4500 {
		t.Errorf("only %d trees are printed", short)
	}
}
