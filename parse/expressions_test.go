package parse_test

import (
	"strings"
	"testing"

	"rendezvous/api"
)

func TestP7_1_Primaries(t *testing.T) {
	checkAll(t, checkE, map[string]string{
		"1": "1", "0": "0", "9007199254740991": "9007199254740991", "0n": "[]n", "1n": "[1]n", "4294967296n": "[0 1]n", "''": `""`, "'a\\nb'": `"a\nb"`, `"\u00e9"`: `"é"`,
		"a": "a", "$_1": "$_1", "undefined": "undefined", "true": "true", "false": "false", "null": "null", "this": "this",
		"[]": "Array", "[a]": "Array(a)", "[a, [b], c = d]": "Array(a Array(b) Assign:=(c d))", "[x => x, 1]": "Array(Arrow(Param:x x) 1)",
		"(function () {})": "Function(Block)", "(function f() {})": "Function:f(Block)", "(function f(a, b) { a })": "Function:f(Param:a Param:b Block(Expr(a)))", "a = function () {}": "Assign:=(a Function(Block))",
		"(function (a) { let b; function f() {} })": "Function(Param:a Block(Let(Decl:b) Func:f(Block)))",
		"(a)": "a", "((a))": "a", "(((1)))": "1", "(a = b)": "Assign:=(a b)", "(a + b) * c": "Binary:*(Binary:+(a b) c)", "(x => x)": "Arrow(Param:x x)",
	})
	checkErrors(t, api.ErrSyntax,
		"[@,]", "[a,@]", "[a,@,b]", "[a@;]", "[@", "[a@", "[a,@", "[a @b]", "[@)", "(@", "(a@", "(@)", "(@) + 1", "(a@, b)", "(a@,)", "(a@;)", "a@, b", "a@)", "a@]", "a@}", "(a@]",
		"(function@)", "(function f @{})", "(function (@1) {})", "(function (a,@) {})", "(function (@,) {})", "(function (a @b) {})", "(function (a @= 1) {})", "(function () @a)", "(function @if() {})", "(function (@if) {})", "(function (@{a}) {})",
		"x = (@;", "x = @", "x = @if", "x = @let", "x = @else", "a = @const", "x = @;", "x = @=> a", "f(@let)", "x = @.a", "x = @:", "[@if]", "[@let]",
	)
}

func TestP7_1_Objects(t *testing.T) {
	checkAll(t, checkE, map[string]string{
		"({})": "Object", "({}).a": "Dot:a(Object)", "a = {}": "Assign:=(a Object)", "a = {b}": "Assign:=(a Object(Prop:b(b)))", "({a})": "Object(Prop:a(a))", "({a, b})": "Object(Prop:a(a) Prop:b(b))", "({a: b})": "Object(Prop:a(b))",
		"({a: 1, a})": "Object(Prop:a(1) Prop:a(a))", "({'': 1})": "Object(Prop(1))", `({"b c": 1})`: "Object(Prop:b c(1))", "({'é': 1})": "Object(Prop:é(1))", "({1: a})": "Object(Prop:1(a))", "({0: a})": "Object(Prop:0(a))",
		"({9007199254740991: a})": "Object(Prop:9007199254740991(a))", "({if: a, class: b, yield: c})": "Object(Prop:if(a) Prop:class(b) Prop:yield(c))", "({true: a, this: b})": "Object(Prop:true(a) Prop:this(b))",
		"({get: a, set, of: b, get})": "Object(Prop:get(a) Prop:set(set) Prop:of(b) Prop:get(get))", "({a: {b: {c}}})": "Object(Prop:a(Object(Prop:b(Object(Prop:c(c))))))",
		"({a: b = c, d: x => x})": "Object(Prop:a(Assign:=(b c)) Prop:d(Arrow(Param:x x)))", "({a: function () {}})": "Object(Prop:a(Function(Block)))", "({a\n:\nb\n,\nc\n})": "Object(Prop:a(b) Prop:c(c))",
	})
	checkErrors(t, api.ErrSyntax,
		"({a,@})", "({@,})", "({@,a})", "({a,@,b})", "({@1n: a})", "({if@})", "({class@})", "({true@})", "({a @b})", "({a @if})", "({'a'@})", "({1@})", "({'a'@, b})", "({1 @a})", "({a @= 1})", "({a@() {}})", "({get @a() {}})", "({async @a() {}})",
		"({@[a]: 1})", "({@(a): 1})", "({@-1: a})", "({@/a/: b})", "({a @/b/})", "({a: @})", "({a: @,})", "({a: b @c})", "({a: 1@: 2})", "({a@;})", "({a@.b})", "({@", "({a@", "({a:@", "({a: 1@", "({a: 1,@", "({a: @let})", "({@:a})", "({a: @:b})", "({a@])",
	)
}

func TestP7_1_Levels(t *testing.T) {
	levels := [][]string{{"??"}, {"||"}, {"&&"}, {"|"}, {"^"}, {"&"}, {"==", "!=", "===", "!=="}, {"<", ">", "<=", ">=", "in"}, {"<<", ">>", ">>>"}, {"+", "-"}, {"*", "/", "%"}}
	for i, list := range levels {
		for j, others := range levels {
			for _, x := range list {
				for _, y := range others {
					checkPair(t, i, j, x, y)
				}
			}
		}
	}
	checkAll(t, checkE, map[string]string{
		"a|b^c&d==e<f<<g+h*i": "Binary:|(a Binary:^(b Binary:&(c Binary:==(d Binary:<(e Binary:<<(f Binary:+(g Binary:*(h i))))))))",
		"a*b+c<<d<e==f&g^h|i": "Binary:|(Binary:^(Binary:&(Binary:==(Binary:<(Binary:<<(Binary:+(Binary:*(a b) c) d) e) f) g) h) i)",
		"a - b * c - d * e":   "Binary:-(Binary:-(a Binary:*(b c)) Binary:*(d e))",
	})
	checkErrors(t, api.ErrSyntax, "a +@", "a + @;", "a + @* b", "a || @|| b", "a in@", "a < @> b", "a * @)", "a + @=> b", "a == @= b", "a - @if", "a @! b", "a @~ b", "a @typeof b")
}

// checkPair holds a source with operators of two levels against the tree in
// which the tighter one, or else the first one, is inside the other.
func checkPair(t *testing.T, i, j int, x, y string) {
	t.Helper()
	called := func(level int, sign string) string {
		if level < 3 {
			return "Logic:" + sign
		}
		return "Binary:" + sign
	}
	first := called(j, y) + "(" + called(i, x) + "(a b) c)"
	second := called(i, x) + "(a " + called(j, y) + "(b c))"
	checkE(t, "(a "+x+" b) "+y+" c", first)
	checkE(t, "a "+x+" (b "+y+" c)", second)
	isMixed := func(one, other int) bool { return one == 0 && (other == 1 || other == 2) }
	if isMixed(i, j) || isMixed(j, i) {
		checkErrors(t, api.ErrSyntax, "a "+x+" b @"+y+" c", "a "+x+"\nb\n@"+y+"\nc", "a "+x+" b + d @"+y+" c", "[a "+x+" b @"+y+" c]")
		return
	}
	want := first
	if j > i {
		want = second
	}
	checkE(t, "a "+x+" b "+y+" c", want)
	checkE(t, "a\n"+x+"\nb\n"+y+"\nc", want)
}

func TestP7_1_Logic(t *testing.T) {
	checkAll(t, checkE, map[string]string{
		"a ?? b ?? c ?? d": "Logic:??(Logic:??(Logic:??(a b) c) d)", "a || b && c || d": "Logic:||(Logic:||(a Logic:&&(b c)) d)", "a && b || c && d": "Logic:||(Logic:&&(a b) Logic:&&(c d))",
		"(a ?? b) || (c ?? d)": "Logic:||(Logic:??(a b) Logic:??(c d))", "a ?? (b || c) ?? d": "Logic:??(Logic:??(a Logic:||(b c)) d)", "a ?? [b || c]": "Logic:??(a Array(Logic:||(b c)))", "a || f(b ?? c)": "Logic:||(a Call(f Logic:??(b c)))",
		"a || b ? c ?? d : e": "Cond(Logic:||(a b) Logic:??(c d) e)", "a = b || (c = d ?? e)": "Assign:=(a Logic:||(b Assign:=(c Logic:??(d e))))", "a ?? b | c": "Logic:??(a Binary:|(b c))", "(a || b)[c] ?? d": "Logic:??(Index(Logic:||(a b) c) d)",
	})
	checkErrors(t, api.ErrSyntax,
		"a ?? b ?? c @|| d", "a || b || c @?? d", "a || b && c @?? d", "a && b || c @?? d", "a ?? b | c @|| d", "a ?? b | c @&& d", "a && b | c @?? d", "a | b && c @?? d", "a + b ?? c * d @&& e", "(a || b) ?? c @|| d", "a || (b ?? c) @?? d",
		"a ?? -b @|| c", "!a || b @?? c", "a ?? b++ @&& c", "x = a ?? b @|| c", "a ?? b() @|| c", "a ?? b @|| c ?? d", "a || b @?? c || d", "(a ?? b) || c @?? d",
	)
}

func TestP7_1_PrefixAndPostfix(t *testing.T) {
	checkAll(t, checkE, map[string]string{
		"-a": "Unary:-(a)", "+a": "Unary:+(a)", "!a": "Unary:!(a)", "~a": "Unary:~(a)", "typeof a": "Unary:typeof(a)", "void a": "Unary:void(a)", "++a": "Pre:++(a)", "--a": "Pre:--(a)", "a++": "Post:++(a)", "a--": "Post:--(a)",
		"- - +a": "Unary:-(Unary:-(Unary:+(a)))", "!~typeof void -a": "Unary:!(Unary:~(Unary:typeof(Unary:void(Unary:-(a)))))", "-++a": "Unary:-(Pre:++(a))", "- --a": "Unary:-(Pre:--(a))", "!a++": "Unary:!(Post:++(a))",
		"-a.b": "Unary:-(Dot:b(a))", "-a()": "Unary:-(Call(a))", "-new a": "Unary:-(New(a))", "-1": "Unary:-(1)", "typeof 1n": "Unary:typeof([1]n)", "-(a = b)": "Unary:-(Assign:=(a b))", "-(x => x)": "Unary:-(Arrow(Param:x x))", "-\na": "Unary:-(a)",
		"-a + b": "Binary:+(Unary:-(a) b)", "a - -b": "Binary:-(a Unary:-(b))", "a + +b": "Binary:+(a Unary:+(b))", "a+++b": "Binary:+(Post:++(a) b)", "a-- - --b": "Binary:-(Post:--(a) Pre:--(b))", "++a + b": "Binary:+(Pre:++(a) b)",
		"typeof a == b": "Binary:==(Unary:typeof(a) b)", "void a in b": "Binary:in(Unary:void(a) b)", "-a ? b : c": "Cond(Unary:-(a) b c)", "a * -b * c": "Binary:*(Binary:*(a Unary:-(b)) c)",
		"++a.b": "Pre:++(Dot:b(a))", "++a[b]": "Pre:++(Index(a b))", "++a().b": "Pre:++(Dot:b(Call(a)))", "++(a)": "Pre:++(a)", "--((a.b))": "Pre:--(Dot:b(a))", "++(a).b": "Pre:++(Dot:b(a))", "++new a().b": "Pre:++(Dot:b(New(a)))", "++\na": "Pre:++(a)",
		"++1[a]": "Pre:++(Index(1 a))", "++undefined": "Pre:++(undefined)", "(a)++": "Post:++(a)", "((a[b]))--": "Post:--(Index(a b))", "a.b.c++": "Post:++(Dot:c(Dot:b(a)))", "a()[b]--": "Post:--(Index(Call(a) b))", "this.a++": "Post:++(Dot:a(this))", "new a().b++": "Post:++(Dot:b(New(a)))",
	})
	checkErrors(t, api.ErrSyntax,
		"-@", "-@;", "typeof@", "++@", "++@;", "++ @)", "- @=> a", "-a @=> a", "-(a) @=> a", "++a @=> a", "a++ @=> a", "typeof (a) @=> a", "typeof @let", "- @if", "a++ @b", "a++ @(b)", "a++@.b", "a++@[b]", "a++ @= b", "++a @= b", "-a @= b", "!a @+= b",
		"1@++", "a++ @++", "a++@--", "f()@++", "new a@++", "new a()@--", "new a.b@++", "this@++", "[]@++", "({})@++", "'a'@++", "null@--", "(a + b)@++", "(a++)@++", "(x => x)@++", "(-a)@--", "-1@++", "x => {} @++", "a + 1@++", "a ? b : 1@--", "!f()@++",
	)
}

// Behind what a prefix ++ or -- cannot have, the next token is the one that is
// not permitted, whatever it is.
func TestP7_1_PrefixOfNoTarget(t *testing.T) {
	operands := []string{"1", "1n", "'a'", "this", "f()", "a.b()", "new a", "new a()", "new a.b", "[a]", "{}", "function () {}", "(a + b)", "(a = b)", "(a++)", "(x => x)", "-a", "typeof a", "- -1", "!a.b", "++a", "--a", "++a.b", "a++", "a[b]--", "-a++"}
	for _, operand := range operands {
		for _, sign := range []string{"++ ", "--\n", "- ++ ", "a + ++ ", "x = --", "[++ ", "f(-- "} {
			if strings.HasSuffix(sign, "--") && strings.HasPrefix(operand, "-") {
				sign += " "
			}
			s := sign + operand
			checkErrors(t, api.ErrSyntax, s+"@", s+" @;", s+"\n@;", s+" @+ 2", s+" @* b", s+"@, b", s+"@)", s+" @= c", s+" @/= c", s+" @/ c", s+"\n@/c/", s+" @? b : c", s+"\n@a", s+" @=> b", s+" @: b", s+" @?? b", s+"\n@++a", s+"\n@}", s+" @if", s+" @in c")
			checkErrors(t, api.ErrSubset, s+" @class", s+"\n@var b", s+" @instanceof b")
		}
	}
	// This ends with the second operator, as that cannot have its operand.
	checkErrors(t, api.ErrSyntax, "++1@++", "++1@--;", "++f()@++", "--this@-- + 1", "++-1@++", "- ++ ++f()@++")
}

func TestP7_1_MembersAndCalls(t *testing.T) {
	checkAll(t, checkE, map[string]string{
		"a.b": "Dot:b(a)", "a.if": "Dot:if(a)", "a.class": "Dot:class(a)", "a.true.this.yield": "Dot:yield(Dot:this(Dot:true(a)))", "a.b.c": "Dot:c(Dot:b(a))", "a . b": "Dot:b(a)", "a\n.\nb": "Dot:b(a)", "1 .a": "Dot:a(1)", "'a'.b": "Dot:b(\"a\")",
		"[].a": "Dot:a(Array)", "this.a": "Dot:a(this)", "1n.a": "Dot:a([1]n)", "(a + b).c": "Dot:c(Binary:+(a b))", "a[b]": "Index(a b)", "a[b][c]": "Index(Index(a b) c)", "a[b = c]": "Index(a Assign:=(b c))", "a[x => x]": "Index(a Arrow(Param:x x))",
		"a[b in c]": "Index(a Binary:in(b c))", "[a][b]": "Index(Array(a) b)", "a()": "Call(a)", "a(b)": "Call(a b)", "a(b, c = d, x => x)": "Call(a b Assign:=(c d) Arrow(Param:x x))", "a()()": "Call(Call(a))", "(a)(b)": "Call(a b)", "1()": "Call(1)",
		"a(b)(c)[d].class": "Dot:class(Index(Call(Call(a b) c) d))", "a(b)(c)[d].e(f)": "Call(Dot:e(Index(Call(Call(a b) c) d)) f)", "(x => x)(1)": "Call(Arrow(Param:x x) 1)", "(function () {})()": "Call(Function(Block))", "a.b(c).d": "Dot:d(Call(Dot:b(a) c))",
	})
	checkErrors(t, api.ErrSyntax,
		"a.@", "a.@;", "a . @1", "a.@'b'", "a.@[b]", "a.@.b", "a.@(b)", "a.@/b/", "a. @'b'", "a[@", "a[@]", "a[b@", "a[b@, c]", "a[b@)", "a[@,b]", "f(@", "f(a@", "f(a,@)", "f(@,)", "f(@,a)", "f(a @b)", "f(a,@,b)", "f(a@;)", "f(a@]", "f(@]", "f(@let)",
	)
}

func TestP7_1_New(t *testing.T) {
	checkAll(t, checkE, map[string]string{
		"new a": "New(a)", "new a()": "New(a)", "new a(b, c)": "New(a b c)", "new a.b": "New(Dot:b(a))", "new a.b(c).d": "Dot:d(New(Dot:b(a) c))", "new a[b](c)[d](e)": "Call(Index(New(Index(a b) c) d) e)", "new a()()": "Call(New(a))", "new a().b": "Dot:b(New(a))",
		"new a.b.if": "New(Dot:if(Dot:b(a)))", "new (a())(b)": "New(Call(a) b)", "new (a().b)": "New(Dot:b(Call(a)))", "new (a.b)(c)": "New(Dot:b(a) c)", "new new a": "New(New(a))", "new new a()": "New(New(a))", "new new a(1)(2)": "New(New(a 1) 2)",
		"new new a(1)(2)(3)": "Call(New(New(a 1) 2) 3)", "new new a(1).b(2)": "New(Dot:b(New(a 1)) 2)", "new new a.b(1)[c](2)": "New(Index(New(Dot:b(a) 1) c) 2)", "new new new a": "New(New(New(a)))", "new new a.b": "New(New(Dot:b(a)))", "new a + b": "Binary:+(New(a) b)",
		"new function () {}": "New(Function(Block))", "new function () {}(a)": "New(Function(Block) a)", "new {}": "New(Object)", "new [](a)": "New(Array a)", "new 1": "New(1)", "new this.a": "New(Dot:a(this))", "new\na\n.\nb\n(\nc\n)": "New(Dot:b(a) c)", "a + new b(c)": "Binary:+(a New(b c))",
		"new a\n[b]": "New(Index(a b))", "(new a).b": "Dot:b(New(a))", "(new a)(b)": "Call(New(a) b)", "new (new a)(b)": "New(New(a) b)", "new a(x => x)": "New(a Arrow(Param:x x))", "new a.new": "New(Dot:new(a))",
	})
	checkErrors(t, api.ErrSyntax,
		"new@", "new @;", "new(@)", "new@.target", "new @-a", "new @++a", "new @typeof a", "new @=> a", "new @let", "new @)", "new a @b", "new a.@", "new a. @1", "new a[@]", "new a[b@", "new a(@,)", "new a(b,@)", "new a(b@", "new new@", "new new @;",
		"new a @=> b", "new (a) @=> b", "new a() @= b", "new a @= b", "new (@)", "new @if",
	)
}

func TestP7_1_Targets(t *testing.T) {
	targets := map[string]string{"a": "a", "a.b": "Dot:b(a)", "a[b]": "Index(a b)", "(a)": "a", "((a.b))": "Dot:b(a)", "(a[b])": "Index(a b)", "a().b": "Dot:b(Call(a))", "new a().b": "Dot:b(New(a))", "(x => x).a": "Dot:a(Arrow(Param:x x))", "1 .a": "Dot:a(1)", "undefined": "undefined"}
	others := []string{"1", "1n", "'a'", "this", "true", "null", "f()", "a + b", "-a", "++a", "a++", "new a", "new a.b", "new a()", "[a]", "({a})", "(a = b)", "a || b", "a ? b : 1", "x => 1", "x => {}", "(x => {})", "() => {}", "(function () {})", "(a, b) => {}", "a = 1", "(a ?? b)", "a.b()", "typeof a", "a == b", "x => x + 1"}
	for _, sign := range strings.Fields("= += -= *= /= %= &= |= ^= <<= >>= >>>=") {
		for s, shape := range targets {
			want := "Assign:" + sign + "(" + shape + " c)"
			checkE(t, s+sign+"c", want)
			checkE(t, s+"\n"+sign+"\nc", want)
			checkE(t, "d = "+s+" "+sign+" c", "Assign:=(d "+want+")")
		}
		for _, s := range others {
			checkErrors(t, api.ErrSyntax, s+" @"+sign+" c", s+"\n@"+sign+"\nc", "x = "+s+"@"+sign+"c", "["+s+" @"+sign+" c]", "let x = "+s+"\n@"+sign+" c", s+" @"+sign)
		}
	}
	checkAll(t, checkE, map[string]string{
		"a = b = c": "Assign:=(a Assign:=(b c))", "a += b.c -= d": "Assign:+=(a Assign:-=(Dot:c(b) d))", "a = b ? c : d": "Assign:=(a Cond(b c d))", "a = x => y": "Assign:=(a Arrow(Param:x y))", "a = (b, c) => d": "Assign:=(a Arrow(Param:b Param:c d))", "a = b + c": "Assign:=(a Binary:+(b c))",
	})
	checkErrors(t, api.ErrSyntax, "a =@", "a = @;", "a = @= b", "a += @)", "a = b = @", "a = 1 @= 2", "for (a = 1 @= 2;;);", "a = b @c")
}

func TestP7_1_Cond(t *testing.T) {
	checkAll(t, checkE, map[string]string{
		"a ? b : c": "Cond(a b c)", "a ? b : c ? d : e": "Cond(a b Cond(c d e))", "a ? b ? c : d : e": "Cond(a Cond(b c d) e)", "(a ? b : c) ? d : e": "Cond(Cond(a b c) d e)", "a ? b = c : d = e": "Cond(a Assign:=(b c) Assign:=(d e))",
		"a || b ? c : d": "Cond(Logic:||(a b) c d)", "a ?? b ? c : d": "Cond(Logic:??(a b) c d)", "a ? b : c + d": "Cond(a b Binary:+(c d))", "a ? b in c : d": "Cond(a Binary:in(b c) d)", "a ? {} : {}": "Cond(a Object Object)",
		"a ? x => y : z": "Cond(a Arrow(Param:x y) z)", "a ? (x) => {} : (y)": "Cond(a Arrow(Param:x Block) y)", "a ? (b) : c => d": "Cond(a b Arrow(Param:c d))", "a ? (b) : (c) => d": "Cond(a b Arrow(Param:c d))",
	})
	checkErrors(t, api.ErrSyntax, "a ?@", "a ? @: b", "a ? b@", "a ? b@;", "a ? b :@", "a ? b : @;", "a ? b@, c", "a ? b : c @: d", "(a ? b@) : c", "a ? b : 1 @= d", "x => {} @? a : b", "a ? b @c : d", "a ? @let : b", "a ? b : @if")
}

func TestP7_1_Arrows(t *testing.T) {
	checkAll(t, checkE, map[string]string{
		"x => y": "Arrow(Param:x y)", "(x) => y": "Arrow(Param:x y)", "() => y": "Arrow(y)", "(a, b, c) => y": "Arrow(Param:a Param:b Param:c y)", "(a, a) => b": "Arrow(Param:a Param:a b)", "() => {}": "Arrow(Block)", "x => {}": "Arrow(Param:x Block)", "x => {a}": "Arrow(Param:x Block(Expr(a)))",
		"x => { let a; function f() {} return a }": "Arrow(Param:x Block(Let(Decl:a) Func:f(Block) Return(a)))", "x => ({})": "Arrow(Param:x Object)", "x => function () {}": "Arrow(Param:x Function(Block))", "x => y => z": "Arrow(Param:x Arrow(Param:y z))", "x => (y) => {}": "Arrow(Param:x Arrow(Param:y Block))",
		"x => y = z": "Arrow(Param:x Assign:=(y z))", "x => y ? a : b": "Arrow(Param:x Cond(y a b))", "x => y ?? z": "Arrow(Param:x Logic:??(y z))", "x =>\ny": "Arrow(Param:x y)", "x =>\n{}": "Arrow(Param:x Block)", "(\na\n,\nb\n) => c": "Arrow(Param:a Param:b c)", "(a\n) => 1": "Arrow(Param:a 1)",
		"((a) => b)": "Arrow(Param:a b)", "[a => b, (c)]": "Array(Arrow(Param:a b) c)", "f((a), (b) => c)": "Call(f a Arrow(Param:b c))", "x => (y)": "Arrow(Param:x y)", "of => of": "Arrow(Param:of of)",
	})
	checkAll(t, checkTree, map[string]string{
		"if (a) b => c": "If(a Expr(Arrow(Param:b c)))", "a: b => c": "Label:a(Expr(Arrow(Param:b c)))", "return a => b": "Return(Arrow(Param:a b))", "return\n(a) => b": "Return Expr(Arrow(Param:a b))", "for (a => b;;);": "For(Arrow(Param:a b) Nothing Nothing Empty)",
		"{() => {}}": "Block(Expr(Arrow(Block)))", "if (a) (b)\nelse c": "If(a Expr(b) Expr(c))", "x => {} ; y": "Expr(Arrow(Param:x Block)) Expr(y)",
	})
	checkErrors(t, api.ErrSyntax,
		"a\n@=> b", "()\n@=> b", "(a)\n@=> b", "(a, b)\n@=> c", "f(a\n@=> b)", "x = a\n@=> b", "a => b\n@=> c",
		"(@)", "(@) + 1", "(@);", "(@)\n", "(a@, b)", "(a@, b) + c", "(a@, b);", "(a@,) => b", "(@,) => b", "(@,a) => b", "(a@, b,) => c", "(a@, 1) => b", "(a@, if) => b", "(a@, b c) => d", "(@, a) => b", "(a @b) => c", "(@if) => a", "(a => b@", "(a@, b) = c", "(@) (a) => b", "(a@, (b) => c)",
		"(1) @=> a", "(a + b) @=> c", "((a)) @=> b", "(a = 1) @=> a", "({a}) @=> a", "[a] @=> a", "1 @=> a", "f(a) @=> b", "a + b @=> c", "a + (b) @=> c", "a + (@) => b", "a ? b : c + d @=> e", "a.b @=> c", "this @=> a", "(a => b) @=> c",
		"a =>@", "a => @;", "() => @)", "a => @}", "a => {@", "a => b => {@", "a => @=> b", "a => @let", "a => @const",
		"x => {}@.a", "x => {} @+ 1", "x => {} @? 1 : 2", "x => {} @&& y", "x => {}@()", "x => {}@[a]", "x => {} @=> y", "x => {} @y", "x => {}\n@.a", "x => {}\n@* 1", "x => {}\n@? a : b", "x => {}\n@=> a", "f(x => {} @(1))", "(x => {}\n@+ 1)",
	)
}

func TestP7_1_UnsupportedWords(t *testing.T) {
	words := strings.Fields("arguments async await case class debugger default delete do enum eval export extends implements import instanceof interface package private protected public static super switch var with yield")
	places := []string{"", "a ", "a\n", "{", "{} ", ";", "x = ", "x + ", "- ", "++ ", "a++ ", "(", "[", "f(", "a[", "a.b ", "({a ", "({a: ", "a ? ", "a ? b ", "a ? b : ", "() => ", "() => {} ", "() => {}\n", "(a) ", "new ", "new a ", "let ", "let a ", "let a\n", "let a = ",
		"if ", "if (", "if (a) ", "if (a) b; else ", "while ", "while (a) ", "for ", "for (", "for (;", "for (let ", "for (;;) ", "l: ", "break ", "break\n", "continue l ", "return ", "return\n", "throw ", "throw\n", "try ", "try {} ", "try {} catch ", "try {} catch (", "try {} finally ", "function ", "function f ", "function f(", "function f(a, ", "function f() "}
	for _, word := range words {
		for _, before := range places {
			checkErrors(t, api.ErrSubset, before+"@"+word, before+"@"+word+" b", before+"@"+word+"\n= c", before+"@"+word+".d")
		}
		checkAll(t, checkE, map[string]string{"a." + word: "Dot:" + word + "(a)", "({" + word + ": a})": "Object(Prop:" + word + "(a))", "new a." + word: "New(Dot:" + word + "(a))", "a\n." + word + "()": "Call(Dot:" + word + "(a))"})
		// The first token that cannot follow is another one.
		checkErrors(t, api.ErrSyntax, "({"+word+"@})", "({"+word+" @a})", "a."+word+" @1", "@) "+word, "a @b "+word, "({"+word+": a @b})")
	}
	checkErrors(t, api.ErrSubset, "a @instanceof b", "@async () => a", "@do ; while (a)", "@delete a.b", "a @class", "(@arguments) => a", "(a, b) => { @var c }")
}

// Where an expression must begin, a / or /= begins a regular expression.
func TestP7_1_RegularExpressions(t *testing.T) {
	begins := []string{"", "{", ";", "{} ", "{}\n", "a; ", "x = ", "x += ", "a + ", "a ?? ", "a in ", "a / ", "-", "typeof ", "++", "(", "[", "[a, ", "f(", "f(a, ", "a[", "({a: ", "({'a': ", "a ? ", "a ? b : ", "() => ", "x =>\n", "new ", "new new ",
		"return ", "return\n", "throw ", "throw a; ", "throw a\n;", "let a = ", "const a = b, c = ", "let a\n", "const a = 1, b\n", "break\n", "break a\n", "continue\n", "if (", "if (a) ", "if (a) b; else ", "while (", "while (a) ", "for (", "for (;", "for (;;", "for (;;) ", "for (let a = ",
		"l: ", "function f() {} ", "function f() {", "try {} catch {} ", "try {} finally {}\n", "try {"}
	for _, before := range begins {
		checkErrors(t, api.ErrSubset, before+"@/", before+"@/=", before+"@/ a", before+"@/= a", before+"@/a/", before+"@/=a/", before+"@/+/")
	}
	others := []string{"let ", "let a ", "const ", "let a, ", "if ", "while ", "for ", "break ", "break a ", "continue ", "throw\n", "throw /*\n*/ ", "{throw\n", "try ", "try {} ", "try {} catch ", "try {} catch (", "try {} catch (a ", "try {} finally ",
		"function ", "function f ", "function f(", "function f(a ", "function f(a, ", "function f() ", "(function ", "(function (", "a.", "({", "({a ", "({a, ", "({'a' ", "({1 ", "() => {} ", "++1 ", "++1\n", "++a++ ", "++f()\n"}
	for _, before := range others {
		checkErrors(t, api.ErrSyntax, before+"@/", before+"@/=", before+"@/ a", before+"@/= a", before+"@/a/")
	}
	checkErrors(t, api.ErrSubset, "x => {}\n@/a/", "x => {}\n@/ 1", "a / @/ b", "a /= @/b/", "(/* */ @/a/)")
	checkErrors(t, api.ErrSyntax, "1 @/= 2", "1\n@/= 2", "a + b\n@/= c", "f()\n@/= c", "let a = 1\n@/= 2", "x => {}\n@/= 2", "a = x => {}\n@/= 2", "(@) / a", "a / b /@", "a++ @/= c", "x => {} @/= 2")
	checkE(t, "a\n/= b\n/ c", "Assign:/=(a Binary:/(b c))")
}

// Whatever stands behind them, tokens that cannot follow are found at their own place.
func TestP7_1_FirstErrorCounts(t *testing.T) {
	for _, s := range []string{"a @b", "(@)", "let @1", "++1 @;", "a ?? b @|| c", "throw\n@a", "try {} @;", "x => {} @+"} {
		for _, rest := range []string{"", " ;", " }", " ) ] } , . =>", " 1 2 3", " let let", " {", " function", " \n\n", " class", " /"} {
			checkErrors(t, api.ErrSyntax, s+rest)
		}
	}
}
