package parse_test

import (
	"testing"

	"rendezvous/api"
)

func TestP7_1_SimpleStatements(t *testing.T) {
	checkAll(t, checkTree, map[string]string{
		"": "", " \n // nothing": "", ";": "Empty", ";;": "Empty Empty",
		"{}": "Block", "{;{}a}": "Block(Empty Block Expr(a))", "{a}{}": "Block(Expr(a)) Block", "{} ({})": "Block Expr(Object)",
		"a": "Expr(a)", "a;": "Expr(a)", "a;b": "Expr(a) Expr(b)", "({})": "Expr(Object)", "(function () {})": "Expr(Function(Block))",
		"{ let a; const b = 1; function f() {} }": "Block(Let(Decl:a) Const(Decl:b(1)) Func:f(Block))",

		"let a": "Let(Decl:a)", "let a;": "Let(Decl:a)", "const a": "Const(Decl:a)", "const a = b = c": "Const(Decl:a(Assign:=(b c)))",
		"let a = 1, b, c = x => x;": "Let(Decl:a(1) Decl:b Decl:c(Arrow(Param:x x)))", "let\na\n=\n1\n,\nb\n;": "Let(Decl:a(1) Decl:b)",
		"let a = b in c": "Let(Decl:a(Binary:in(b c)))", "let of, get": "Let(Decl:of Decl:get)",

		"a: b": "Label:a(Expr(b))", "a\n:\nb": "Label:a(Expr(b))", "a: b: ;": "Label:a(Label:b(Empty))", "a: {let b}": "Label:a(Block(Let(Decl:b)))",
		"a: {function f() {}}": "Label:a(Block(Func:f(Block)))", "get: set: of": "Label:get(Label:set(Expr(of)))", "{a: b}": "Block(Label:a(Expr(b)))",

		"function f() {}": "Func:f(Block)", "function f(a) {}": "Func:f(Param:a Block)", "function\nf\n(\n)\n{\n}": "Func:f(Block)",
		"function f(a, b, a) { return a }": "Func:f(Param:a Param:b Param:a Block(Return(a)))", "function f() {} function g() {}": "Func:f(Block) Func:g(Block)",
		"function f() {} (a)": "Func:f(Block) Expr(a)", "{function f() {}}": "Block(Func:f(Block))", "function f() { function g() {} }": "Func:f(Block(Func:g(Block)))",
	})
	checkErrors(t, api.ErrSyntax,
		"{@", "{a@", "{a;@", "{{}@", "@}", "{}@}", "a;@)", "@)", "@]", "@,", "@.", "@:", "@?", "@=>", "@=", "@*", "@<", "@==", "@&&", "@in a", "@else", "@catch {}", "@finally {}",
		"let@", "let @;", "let @1", "let @if", "let @let", "let @{a} = b", "let @[a] = b", "let @= 1", "let a,@", "let a,@;", "let a, @1", "let a = 1,@", "let a =@", "let a = @;",
		"let a@: b", "let a@.b", "let a @+ 1", "let a @+= 1", "let a@++", "const@", "const @1", "const a = @const",
		"l:@", "l: @}", "{l:@}", "l: @:", "l: @let a", "l: @const a", "l: @function f() {}", "l: m: @function f() {}", "l: m: @let a",
		"1@: a", "this@: a", "(a)@: b", "a.b@: c", "{'a'@: b}", "a = b@: c", "if@: a",
		"function@", "function @() {}", "function @if() {}", "function @1() {}", "function f@", "function f @{}", "function f(@", "function f(@1) {}", "function f(@if) {}", "function f(a, @) {}",
		"function f(@,) {}", "function f(a @b) {}", "function f(a @= 1) {}", "function f(@{a}) {}", "function f() @a", "function f()@", "function f() @=> a", "function f()@;", "function f() {@",
	)
}

func TestP7_1_IfAndLoops(t *testing.T) {
	checkAll(t, checkTree, map[string]string{
		"if (a) b": "If(a Expr(b))", "if (a) b; else c": "If(a Expr(b) Expr(c))", "if (a) {} else {}": "If(a Block Block)", "if (a) b\nelse c": "If(a Expr(b) Expr(c))",
		"if (a)\nb": "If(a Expr(b))", "if (a = b) c": "If(Assign:=(a b) Expr(c))", "if (a); else if (b); else;": "If(a Empty If(b Empty Empty))", "if (a) l: b\nelse c": "If(a Label:l(Expr(b)) Expr(c))",
		"if (a) if (b) c; else d": "If(a If(b Expr(c) Expr(d)))", "if (a) if (b) c; else d; else e": "If(a If(b Expr(c) Expr(d)) Expr(e))",
		"if (a) while (b) if (c) d; else e": "If(a While(b If(c Expr(d) Expr(e))))", "if (a) { if (b) c } else d": "If(a Block(If(b Expr(c))) Expr(d))",
		"if (a) {} b": "If(a Block) Expr(b)", "if (a) {let b}": "If(a Block(Let(Decl:b)))",

		"while (a) b": "While(a Expr(b))", "while (a) while (b);": "While(a While(b Empty))", "while (x => x) {}": "While(Arrow(Param:x x) Block)",

		"for (;;);": "For(Nothing Nothing Nothing Empty)", "for (a;b;c) d": "For(a b c Expr(d))", "for (a\n;\nb\n;\nc\n)\nd": "For(a b c Expr(d))",
		"for (a;;) {}": "For(a Nothing Nothing Block)", "for (;a;) {}": "For(Nothing a Nothing Block)", "for (;;a) {}": "For(Nothing Nothing a Block)",
		"for (let a;;);": "For(Let(Decl:a) Nothing Nothing Empty)", "for (let i = 0, j; i < 2; i++) f()": "For(Let(Decl:i(0) Decl:j) Binary:<(i 2) Post:++(i) Expr(Call(f)))",
		"for (const a = 1;;) b": "For(Const(Decl:a(1)) Nothing Nothing Expr(b))", "for (const a\n;;) b": "For(Const(Decl:a) Nothing Nothing Expr(b))",
		"for (a in b;;);": "For(Binary:in(a b) Nothing Nothing Empty)", "for (let a = b in c;;);": "For(Let(Decl:a(Binary:in(b c))) Nothing Nothing Empty)",
		"for (function () {};;);": "For(Function(Block) Nothing Nothing Empty)", "for ({};;);": "For(Object Nothing Nothing Empty)", "for (of;;) of": "For(of Nothing Nothing Expr(of))",
		"for (a = 1; b = 2; c = 3);": "For(Assign:=(a 1) Assign:=(b 2) Assign:=(c 3) Empty)",
	})
	checkErrors(t, api.ErrSyntax,
		"if@", "if @a", "if (@", "if (@)", "if (a@", "if (a)@", "if (a) b; else@", "if (a) @let b", "if (a) @const b = 1", "if (a) @function f() {}", "if (a) @else b",
		"if (a) b; else @let c", "if (a) b; else @const c", "if (a) b; else @function f() {}", "if (a@, b) c", "if (a@;) b", "if (a) b;; @else c", "if (a) {}; @else b",
		"if (a) b; else c; @else d", "if (@let b) c", "if (a) b @else c", "if (a\n@b) c",
		"while@", "while @a", "while (@)", "while (a)@", "while (a) @let b", "while (a) @const b", "while (a) @function f() {}", "while (a @b", "while (a) @}",
		"for@", "for @a", "for (@", "for (@)", "for (;@)", "for (;;)@", "for (a@);", "for (a@,b;;);", "for (a; b@);", "for (a; b; c@;);", "for (a; b; c@; d);",
		"for (let@;;);", "for (let a@);", "for (let a @of b);", "for (let a @in b);", "for (a @of b);", "for (a in b@);", "for (const a = b in c@);", "for (a\n@b;;);", "for (let a\n@b;;);", "for (let a = 1\n@b;;);", "for (a;b\n@c;);",
		"for (;@let a;);", "for (;;@let a);", "for (;;) @let a", "for (;;) @const a", "for (;;) @function f() {}", "for (@if;;);", "for (function f() {}@) a", "for ({a@;};;);", "for (function @if() {};;);", "for (;;@",
	)
}

func TestP7_1_Jumps(t *testing.T) {
	checkAll(t, checkTree, map[string]string{
		"break": "Break", "continue;": "Continue", "break a": "Break:a", "continue a;": "Continue:a", "break\na": "Break Expr(a)", "continue\na": "Continue Expr(a)", "break a\nb": "Break:a Expr(b)",
		"break\n;": "Break", "continue a\n;": "Continue:a", "break /*\n*/ a": "Break Expr(a)", "break /* */ a": "Break:a", "{break}": "Block(Break)", "{continue a}": "Block(Continue:a)",
		"while (1) break\na: b": "While(1 Break) Label:a(Expr(b))", "a: for (;;) break a": "Label:a(For(Nothing Nothing Nothing Break:a))", "if (a) break\nelse continue": "If(a Break Continue)",
		"return": "Return", "return;": "Return", "return 1": "Return(1)", "return\n1": "Return Expr(1)", "return\n;": "Return", "{return}": "Block(Return)", "{return\n}": "Block(Return)", "return {}": "Return(Object)",
		"return function () {}": "Return(Function(Block))", "return a\n+ b": "Return(Binary:+(a b))", "return\n{}": "Return Block", "return a = b": "Return(Assign:=(a b))", "return /* */ (\na)": "Return(a)",
		"throw a": "Throw(a)", "throw a;": "Throw(a)", "throw {}\nb": "Throw(Object) Expr(b)", "throw a\n/ b": "Throw(Binary:/(a b))", "{throw a}": "Block(Throw(a))", "throw (\na\n)": "Throw(a)", "throw function () {}": "Throw(Function(Block))",
	})
	checkErrors(t, api.ErrSyntax,
		"break @1", "break @if", "break @(a)", "break @{}", "break @=> a", "break a @b", "break a@.b", "break a@: b", "break\n@: a", "continue @{}", "continue @'a'", "continue a @continue",
		"return @)", "return @=> a", "return @let", "return 1 @2", "return a@, b", "return @:", "return\n@)",
		"throw@", "throw @;", "throw @)", "throw\n@1", "throw\n@;", "throw\n@", "{throw@}", "{throw\n@}", "throw /*\n*/ @a", "throw\n@throw a", "throw 1 @2", "throw a@, b", "throw @let", "throw\n@a = 1",
	)
}

func TestP7_1_Try(t *testing.T) {
	checkAll(t, checkTree, map[string]string{
		"try {} catch {}": "Try(Block Catch(Block) Nothing)", "try {} finally {}": "Try(Block Nothing Block)", "try {a} catch (e) {b} finally {c}": "Try(Block(Expr(a)) Catch:e(Block(Expr(b))) Block(Expr(c)))",
		"try\n{}\ncatch\n(e)\n{}": "Try(Block Catch:e(Block) Nothing)", "try {} catch {} a": "Try(Block Catch(Block) Nothing) Expr(a)", "try {} finally {} (a)": "Try(Block Nothing Block) Expr(a)",
		"try { let a } catch { function f() {} } finally { const b }": "Try(Block(Let(Decl:a)) Catch(Block(Func:f(Block))) Block(Const(Decl:b)))", "try {} catch (of) {}": "Try(Block Catch:of(Block) Nothing)",
		"try { try {} finally {} } catch {}": "Try(Block(Try(Block Nothing Block)) Catch(Block) Nothing)",
	})
	checkErrors(t, api.ErrSyntax,
		"try@", "try @a", "try @;", "try {}@", "try {} @a", "try {}\n@a", "try {}@;", "{try {}@}", "try {@", "try {} @{}", "try {} @try {}", "try {} catch@", "try {} catch @a", "try {} catch (@", "try {} catch (@1) {}", "try {} catch (@) {}",
		"try {} catch (@if) {}", "try {} catch (@{a}) {}", "try {} catch (a@, b) {}", "try {} catch (a @= 1) {}", "try {} catch (a) @b", "try {} catch (a)@", "try {} catch {} @catch {}", "try {} catch {@",
		"try {} finally@", "try {} finally @a", "try {} finally @(a) {}", "try {} finally {} @catch {}", "try {} finally {} @finally {}", "try {} catch {} finally {} @finally {}", "try {} finally {@",
	)
}

func TestP7_1_EndOfStatement(t *testing.T) {
	checkAll(t, checkTree, map[string]string{
		"a\nb": "Expr(a) Expr(b)", "a\rb": "Expr(a) Expr(b)", "a /*\n*/ b": "Expr(a) Expr(b)", "a // c\nb": "Expr(a) Expr(b)", "a\n;b": "Expr(a) Expr(b)", "a\n;;": "Expr(a) Empty",
		"{a\n}": "Block(Expr(a))", "{a} b": "Block(Expr(a)) Expr(b)", "let a = 1\nlet b": "Let(Decl:a(1)) Let(Decl:b)", "const a\nb": "Const(Decl:a) Expr(b)",
		"a\n++b": "Expr(a) Expr(Pre:++(b))", "a\n++\nb": "Expr(a) Expr(Pre:++(b))", "a\n--b": "Expr(a) Expr(Pre:--(b))", "a++\nb": "Expr(Post:++(a)) Expr(b)", "++a\n++b": "Expr(Pre:++(a)) Expr(Pre:++(b))", "1\n--a": "Expr(1) Expr(Pre:--(a))",
		// What can go on goes on, whatever line ends there are.
		"a\n(b)": "Expr(Call(a b))", "a\n[b]": "Expr(Index(a b))", "a\n.b": "Expr(Dot:b(a))", "a\n+b": "Expr(Binary:+(a b))", "a\n-b": "Expr(Binary:-(a b))", "a\nin b": "Expr(Binary:in(a b))", "a\n?b\n:c": "Expr(Cond(a b c))", "a\n=b": "Expr(Assign:=(a b))",
		"a\n/b": "Expr(Binary:/(a b))", "a\n/b/c": "Expr(Binary:/(Binary:/(a b) c))", "a\n/=b": "Expr(Assign:/=(a b))", "a++\n+b": "Expr(Binary:+(Post:++(a) b))", "a++\n/b/c": "Expr(Binary:/(Binary:/(Post:++(a) b) c))",
		"new a\n(b)": "Expr(New(a b))", "let a\n,b": "Let(Decl:a Decl:b)", "let a\n=b": "Let(Decl:a(b))", "x => y\n(1)": "Expr(Arrow(Param:x Call(y 1)))",
		// What cannot go on ends.
		"let a\n(b)": "Let(Decl:a) Expr(b)", "let a\n[b]": "Let(Decl:a) Expr(Array(b))", "break\n(b)": "Break Expr(b)", "return\n+b": "Return Expr(Unary:+(b))", "a\n{}": "Expr(a) Block", "a\n!b": "Expr(a) Expr(Unary:!(b))",
		"a\nfunction f() {}": "Expr(a) Func:f(Block)", "a\nif (b) c": "Expr(a) If(b Expr(c))", "a\nb: c": "Expr(a) Label:b(Expr(c))", "x => {}\n+ 1": "Expr(Arrow(Param:x Block)) Expr(Unary:+(1))", "x => {}\n(1)": "Expr(Arrow(Param:x Block)) Expr(1)",
		"x => {}\n[1]": "Expr(Arrow(Param:x Block)) Expr(Array(1))", "a = x => {}\n(1)": "Expr(Assign:=(a Arrow(Param:x Block))) Expr(1)", "a ? b : x => {}\n++c": "Expr(Cond(a b Arrow(Param:x Block))) Expr(Pre:++(c))",
	})
	checkErrors(t, api.ErrSyntax,
		"a @b", "a @1", "a @{}", "1 @2", "a @'b'", "a @if (b) c", "a @function f() {}", "let a @b", "let a = 1 @b", "{a @b}", "{} a @b", "a\n++@", "a\n++\n@;", "a /* */ @b",
		"(a\n@b)", "(a\n@++)", "[a\n@b]", "f(a\n@b)", "({a: b\n@c})", "a ? b\n@c", "x => {} @+ 1", "x => {} @()", "() => {} @x", "a[b\n@c]", "a\n@)", "1\n@: b", "a\n@, b", "a\n@}",
	)
}
