package early_test

import (
	"strconv"
	"strings"
	"testing"

	"rendezvous/api"
	"rendezvous/early"
	"rendezvous/tree"
)

// checked tells what Check answers: nothing, or the first node that is wrong.
func checked(t *testing.T, one api.Tree) string {
	t.Helper()
	n, errno := early.Check(one)
	switch {
	case errno == api.OK && n == 0:
		return ""
	case errno != api.ErrSyntax || n < 0 || n >= len(one.Nodes):
		t.Errorf("Check = %d, error %d", n, errno)
		return "none"
	}
	return strconv.Itoa(n) + " " + kindNames[one.Nodes[n].Kind]
}

func checkWrong(t *testing.T, cases map[string]string) {
	t.Helper()
	for s, want := range cases {
		if got := checked(t, parsed(t, s)); got != want {
			t.Errorf("Check(%q) tells %q; want %q", s, got, want)
		}
	}
}

func checkRight(t *testing.T, sources ...string) {
	t.Helper()
	for _, s := range sources {
		if got := checked(t, parsed(t, s)); got != "" {
			t.Errorf("Check(%q) tells %q", s, got)
		}
	}
}

func TestP8_2_BadTrees(t *testing.T) {
	for i, bad := range badTrees() {
		if n, errno := early.Check(bad); n != 0 || errno != api.ErrForm {
			t.Errorf("Check of tree %d = %d, error %d", i, n, errno)
		}
	}
	// A tree that is not good has no other errors.
	for _, s := range []string{"let a, a", "break", "return", "l: l: ;", "const a", "{ (a, a) => 1 }"} {
		one := parsed(t, s)
		one.Nodes[len(one.Nodes)-1].N.N = -1
		if n, errno := early.Check(one); n != 0 || errno != api.ErrForm {
			t.Errorf("Check(%q), which is not good = %d, error %d", s, n, errno)
		}
	}
}

func TestP8_2_NamesTwice(t *testing.T) {
	checkWrong(t, map[string]string{
		"let a, a": "0 Program", "let a, b, c, a": "0 Program", "const a = 1, a = 2": "0 Program", "let a; let a": "0 Program", "let a; const a = 1": "0 Program", "const a = 1; let a": "0 Program",
		"let a; function a() {}": "0 Program", "function a() {} const a = 1": "0 Program", "function a() {} function a() {}": "0 Program", "let a, b; function c() {} const d = 1, b = 2": "0 Program",
		"{ let a, a }": "1 Block", "; { ; let a; ; function a() {} }": "2 Block", "{ { const b = 1, b = 2 } }": "2 Block", "let a; { let b; { let c; let c } }": "6 Block", "if (a) { let b, b }": "3 Block", "if (a) ; else { let b, b }": "4 Block",
		"try { let a, a } catch {}": "2 Block", "try {} catch { let a, a }": "4 Block", "try {} catch {} finally { let a, a }": "5 Block",
		"for (let i, i;;) ;": "1 For", "for (const i = 1, j = 2, i = 3;;) ;": "1 For", "while (a) for (let i, j, i;;) ;": "3 For",
		"function f(a, a) {}": "1 Func", "function f(a, b, c, b) {}": "1 Func", "(function (a, a) {})": "2 Function", "(function f(a, b, a) {})": "2 Function", "(a, a) => 1": "2 Arrow", "(a, b, b) => {}": "2 Arrow", "f((a, a) => 1)": "4 Arrow",
		"() => { let a, a }": "3 Block", "function f() { let a, a }": "2 Block", "(function () { let a; function a() {} })": "3 Block",
	})
	checkRight(t, "", ";", "let a", "let a, b", "let a; const b = 1; function c() {}", "let a, A, aa, $a, _a, a0",
		"let a; { let a }", "let a; { let a; { let a } { let a } }", "{ let a } { let a } let a", "{ function a() {} } function a() {}", "if (b) { let a } else { let a } let a",
		"let i; for (let i;;) ;", "for (let i;;) { let i }", "for (let i;;) for (let i;;) { const i = 1 }", "for (let i;;) ; for (let i;;) ;", "for (let i;;) { function i() {} }",
		"let a; function f(a) {}", "let a; (a => a)(a)", "a => a => { { let a } }", "function f(f) {}", "(function f(f) {})", "let f = function f() {}", "(function f() { let f })", "function f() { let f }", "function f() { function f() {} }", "let a = () => a",
		"let a; try { let a } catch (a) {} finally { let a }", "let a; (function a() {}); (function a() {})", "let l; l: ; m: ; let m", "let a = { a: 1, a: 2 }; a.a", "let a = a + a; a; a")
}

func TestP8_2_BodiesThatDeclareAgain(t *testing.T) {
	checkWrong(t, map[string]string{
		"(x) => { let x; }": "4 Block", "x => { const x = 1 }": "4 Block", "(a, b, c) => { let d, b }": "6 Block", "(a, b) => { function a() {} }": "5 Block",
		"function f(a) { let a }": "3 Block", "function f(a, b) { function b() {} }": "4 Block", "function f(a, b) { let c; a; const d = 1, b = 2 }": "4 Block", "(function (a) { let a })": "4 Block", "(function f(a, f) { let f })": "5 Block",
		"x = { f: function (a) { let a } }":                 "8 Block",
		"try {} catch (e) { let e }":                        "4 Block",
		"try {} catch (e) { const d = 1; function e() {} }": "4 Block", "try {} catch (e) { let a, b, e } finally { let e }": "4 Block", "try { try {} catch (e) { let e } } catch (e) {}": "6 Block",
		"function f(a) { return (b) => { let b } }": "7 Block", "function f(a) { try {} catch (b) { let b } }": "7 Block", "(a) => { ; (b) => { let c, a, b } }": "9 Block",
		// What is wrong in itself comes ahead of its body.
		"(a, a) => { let a }": "2 Arrow", "function f(a, b, b) { let a }": "1 Func",
	})
	checkRight(t, "(x) => { { let x } }", "(x) => { for (let x;;) ; }", "(x) => { let y }", "(x) => (x) => { let y }", "(x) => () => { let x }", "x => y => { let x }", "function f(a) { { let a } { const a = 1 } }", "function f(a) { (function () { let a }); }", "(a) => { (function a() {}) }",
		"function f(a) { let f }", "(function f(a) { const f = 1 })", "function f(a) { x => { let a } }", "(function (a) { if (a) { let a } else { let a } })", "function f(a) { l: { let a } }", "function f(a) { while (a) { let a } }",
		"try {} catch (e) { { let e } }", "try {} catch { let e }", "try { let e } catch (e) {}", "try {} catch (e) {} finally { let e }", "try {} catch (e) { for (let e;;) ; }", "try {} catch (e) { try {} catch (e) {} }", "try {} catch (e) { (e) => 1 }", "try {} catch (e) { () => { let e } }", "try {} catch (e) { try { let e } finally { let e } }",
		"for (let a;;) { let a }", "for (let a;;) { function a() {} }", "a: { let a }", "while (x => a) { let x }", "for (; x => a;) { let x }", "if (x => a) { let x }")
}

func TestP8_2_ConstsWithoutValue(t *testing.T) {
	checkWrong(t, map[string]string{
		"const a": "2 Decl", "const a = 1, b": "4 Decl", "const a, b = 1": "2 Decl", "const a = 1, b, c = 2, d": "4 Decl", "{ const a }": "3 Decl", "for (const a;;) ;": "3 Decl", "for (const a = 1, b;;) ;": "5 Decl", "let a; const b": "4 Decl",
		"() => { const a }": "5 Decl", "function f() { ; const a }": "5 Decl", "let a = () => { const b }": "6 Decl", "const a = () => { const b }": "6 Decl", "const a = () => { let b }, c": "7 Decl",
	})
	checkRight(t, "let a", "let a, b", "let a = 1, b", "const a = 1", "const a = b", "const a = 1, b = 2", "for (let a;;) ;", "for (let a, b = 1;;) ;", "for (const a = 1, b = 2;;) ;", "{ let a }", "const a = () => { let b }", "const a = a")
}

func TestP8_2_LabelsTwice(t *testing.T) {
	checkWrong(t, map[string]string{
		"a: a: ;": "2 Label", "a: b: a: ;": "3 Label", "a: b: b: a: ;": "3 Label", "a: { a: ; }": "3 Label", "a: { ; b: { a: ; } }": "6 Label", "a: while (1) a: ;": "4 Label", "a: for (;;) a: ;": "6 Label", "a: if (1) a: ;": "4 Label", "a: if (1) ; else a: ;": "5 Label",
		"a: try { a: ; } catch {}": "4 Label", "a: try {} catch { a: ; }": "6 Label", "a: try {} finally { a: ; }": "6 Label", "; b: { a: ; } b: { a: { b: ; } }": "10 Label", "() => { a: a: ; }": "5 Label", "a: b: for (let i;;) { c: { b: ; } }": "11 Label",
		"function f() { a: { function g() { a: a: ; } } }": "8 Label",
	})
	checkRight(t, "a: ;", "a: b: ;", "a: ; a: ;", "a: b: ; b: a: ;", "{ a: ; } a: ;", "a: { } a: { }", "a: { b: ; b: ; c: b: ; }", "a: { (() => { a: ; }) }", "a: { (function () { a: { (x => { a: ; }); } }); }", "a: { function f() { a: ; } }", "a: while (() => { a: ; }) b: ;", "if (1) a: ; else a: ;", "try { a: ; } catch { a: ; } finally { a: ; }",
		"a: { let a; a = a.a }", "a: A: ;", "a: (function a(a) { })", "a: { function a() {} }", "a: try { } catch (a) { }", "a: { break a }")
}

func TestP8_2_Breaks(t *testing.T) {
	checkWrong(t, map[string]string{
		"break": "1 Break", "{ break }": "2 Break", "if (1) break": "3 Break", "if (1) ; else break": "4 Break", "a: break": "2 Break", "a: { break }": "3 Break", "try { break } catch {}": "3 Break", "try {} catch { break }": "5 Break", "try {} finally { break }": "5 Break", "while (1) ; break": "4 Break", "for (;;) ; break": "6 Break",
		"while (1) { (() => { break }) }": "7 Break", "for (;;) { (function () { break }); }": "9 Break", "while (1) { function f() { break } }": "6 Break", "while (() => { break }) ;": "4 Break", "for (() => { break };;) ;": "4 Break", "for (let i = () => { break };;) ;": "6 Break", "for (; () => { break };) ;": "5 Break", "for (;; () => { break }) ;": "6 Break",
		"break a": "1 Break", "{ break a }": "2 Break", "a: ; break a": "3 Break", "a: { } break a": "3 Break", "a: { break b }": "3 Break", "a: while (1) break b": "4 Break", "while (1) break a": "3 Break", "for (;;) { break a }": "6 Break", "b: { a: ; break a }": "5 Break", "break a; a: ;": "1 Break", "break a; a: { break a }": "1 Break",
		"a: { (() => { break a }) }": "6 Break", "a: while (1) { (() => { break a }) }": "8 Break", "a: { function f() { break a } }": "5 Break", "a: (function () { break a })": "5 Break", "a: while (() => { break a }) ;": "5 Break", "a: { a = 1; (a) => { let b; break a } }": "13 Break", "let a; { break a }": "4 Break", "function a() { break a }": "3 Break", "(function a(a) { break a })": "5 Break", "try {} catch (a) { break a }": "5 Break",
		"while (1) { () => { while (1) break; break } }": "10 Break",
	})
	checkRight(t, "while (1) break", "for (;;) break", "while (1) { break }", "for (let a;;) { { break } }", "while (1) if (1) break; else break", "while (1) a: break", "while (1) try { break } catch { break } finally { break }", "for (;;) while (1) { break } ", "for (;;) { while (1) ; break }", "() => { while (1) break }", "while (() => { for (;;) break }) break", "function f() { for (;;) { () => 1; break } }",
		"a: break a", "a: { break a }", "a: b: { break a; break b }", "a: { b: { break a } break a }", "a: while (1) { break a; }", "a: for (;;) { break a }", "a: if (1) break a; else break a", "a: try { break a } catch { break a } finally { break a }", "a: { try {} catch (a) { break a } }", "a: while (1) { b: while (1) { c: while (1) { break a; break b; break c; break } } }", "() => { a: break a }", "a: { () => { a: break a }; break a }", "while (1) { () => { a: { break a } } }", "a: { let a; break a }")
}

func TestP8_2_Continues(t *testing.T) {
	checkWrong(t, map[string]string{
		"continue": "1 Continue", "{ continue }": "2 Continue", "if (1) continue": "3 Continue", "a: continue": "2 Continue", "a: { continue }": "3 Continue", "try {} finally { continue }": "5 Continue", "while (1) ; continue": "4 Continue",
		"while (1) { (() => { continue }) }": "7 Continue", "for (;;) { function f() { continue } }": "8 Continue", "while (() => { continue }) ;": "4 Continue", "for (let i = function () { continue };;) ;": "6 Continue",
		"continue a": "1 Continue", "a: ; continue a": "3 Continue", "while (1) continue a": "3 Continue", "a: while (1) continue b": "4 Continue", "a: while (1) ; continue a": "5 Continue",
		// The Label is around it, but its statement is no loop.
		"a: continue a": "2 Continue", "a: { continue a }": "3 Continue", "a: b: { continue a }": "4 Continue", "a: { while (1) continue a }": "5 Continue", "a: if (1) while (1) continue a": "6 Continue", "a: if (1) ; else continue a": "5 Continue", "a: try { while (1) continue a } catch {}": "6 Continue", "a: b: { for (;;) continue b }": "8 Continue",
		"while (1) a: continue a": "4 Continue", "while (1) a: { continue a }": "5 Continue", "a: while (1) b: { continue b }": "6 Continue", "a: b: { c: while (1) { continue c; continue b } }": "9 Continue", "while (1) { a: { while (1) { continue; continue a } } }": "10 Continue", "a: { b: while (1) continue a }": "6 Continue",
		"a: while (1) { (() => { continue a }) }": "8 Continue", "a: for (;;) { function f() { continue a } }": "9 Continue", "a: while (() => { continue a }) ;": "5 Continue", "a: for (;; () => { continue a }) ;": "7 Continue",
	})
	checkRight(t, "while (1) continue", "for (;;) continue", "while (1) { { continue } }", "for (const a = 1;;) { if (1) continue; else continue }", "while (1) a: continue", "while (1) { a: { continue } }", "while (1) try { continue } catch { continue } finally { continue }", "() => { for (;;) continue }",
		"a: while (1) continue a", "a: for (;;) continue a", "a: for (let a;;) { continue a }", "a: b: while (1) { continue a; continue b }", "a: b: c: for (;;) continue a", "a: b: c: for (;;) continue b", "a: while (1) b: for (;;) { continue a; continue b; continue }", "a: while (1) { b: { continue a } }", "a: while (1) b: continue a", "a: while (1) { if (1) { try {} finally { continue a } } }", "while (() => { a: while (1) continue a }) continue", "a: { () => { a: for (;;) continue a } }", "a: { } a: while (1) continue a")
}

func TestP8_2_Returns(t *testing.T) {
	checkWrong(t, map[string]string{
		"return": "1 Return", "return 1": "1 Return", "{ return }": "2 Return", "{ { return 1 } }": "3 Return", "if (1) return": "3 Return", "while (1) return": "3 Return", "for (;;) { return }": "6 Return", "a: return": "2 Return", "try { return } catch {}": "3 Return", "try {} catch (e) { return }": "5 Return", "try {} finally { return }": "5 Return",
		"function f() {} return": "3 Return", "function f() { return } return": "4 Return", "() => { return } \n return": "5 Return", "return () => { return }": "1 Return",
	})
	checkRight(t, "function f() { return }", "function f() { return 1 }", "(function () { return })", "() => { return }", "x => { return x }", "() => { { return 1 } }", "() => { while (1) for (;;) { a: return } }", "() => { if (1) return; else return 1 }", "(function () { try { return } catch { return } finally { return } })", "function f() { return () => { return } }", "function f() { () => 1; (function () { }); return }", "x = { f: () => { return } }", "while (() => { return }) ;", "for (let i = function () { return };;) ;")
}

// Of several errors, that of the first node counts, whatever they are.
func TestP8_2_TheFirstNode(t *testing.T) {
	checkWrong(t, map[string]string{
		"{ break } let a, a": "0 Program", "return; { let a, a }": "1 Return", "{ return; let a, a }": "1 Block", ";{ break; continue }": "3 Break", "continue; break; return": "1 Continue", "const a; const a = 1": "0 Program", "const a; break": "2 Decl", "break; const a": "1 Break",
		"a: { a: break b }": "3 Label", "a: break b; a: a: ;": "2 Break", "for (const a, a;;) break b": "1 For", "for (const a;;) break b": "3 Decl", "for (const a = () => { return b; break };;) return": "8 Break", "(a, a) => { const b; let b }": "2 Arrow", "(a) => { const b; let a }": "4 Block", "(a) => { const b; { let a, a } }": "6 Decl",
		"function f() { break } break": "3 Break", "try { break } catch (e) { let e }": "3 Break", "try { } catch (e) { let e } finally { break }": "4 Block", "if (() => { break }) return; else continue": "4 Break", "x = [() => { continue }, (a, a) => 1]": "7 Continue", "{ { let a, a } let b, b }": "1 Block", "while (1) { break; continue; return; const a }": "6 Return",
	})
}

// numbered is name0, name1 and so on.
func numbered(name string, count int) []string {
	list := []string{}
	for i := range count {
		list = append(list, name+strconv.Itoa(i))
	}
	return list
}

// greatProgram is a program of one Let, of so many names.
func greatProgram(names ...string) api.Tree {
	one := api.Tree{Nodes: []api.Node{{Kind: tree.Program, Kids: []int{1}}, {Kind: tree.Let}}}
	for i, name := range names {
		one.Nodes[1].Kids = append(one.Nodes[1].Kids, i+2)
		one.Nodes = append(one.Nodes, api.Node{Kind: tree.Decl, Name: name})
	}
	return one
}

func TestP8_2_GreatTrees(t *testing.T) {
	names := numbered("a", api.MaxNodes-2)
	if got := checked(t, greatProgram(names...)); got != "" {
		t.Errorf("Check of many names tells %q", got)
	}
	for _, i := range []int{0, 1, 2000, len(names) - 2} {
		twice := append(names[:len(names)-1:len(names)-1], names[i])
		if got := checked(t, greatProgram(twice...)); got != "0 Program" {
			t.Errorf("Check of many names, that of %d twice, tells %q", i, got)
		}
	}
	long := strings.Repeat("b", api.MaxText-1)
	checkGreat := func(want string, names ...string) {
		t.Helper()
		if got := checked(t, greatProgram(names...)); got != want {
			t.Errorf("Check of long names tells %q; want %q", got, want)
		}
	}
	checkGreat("", long+"1", long+"2", long)
	checkGreat("0 Program", long+"1", long+"2", long, long+"2")
	if n, errno := early.Check(greatProgram(append(names, "x")...)); n != 0 || errno != api.ErrForm {
		t.Errorf("Check of too many nodes = %d, error %d", n, errno)
	}
}

func TestP8_2_DeepTrees(t *testing.T) {
	deep := func(begin, inner, end string, count int) string {
		return strings.Repeat(begin, count) + inner + strings.Repeat(end, count)
	}
	for _, c := range []struct {
		begin, inner, end string
		count             int
		want              string
	}{
		{"{", "break", "}", 46, "47 Break"}, {"{", "return", "}", 46, "47 Return"}, {"{", "let a, a", "}", 45, "45 Block"}, {"if (1)", "continue a", "", 46, "93 Continue"}, {"{ let a; ", "let b", "}", 45, ""},
		{"x => {", "return", "}", 15, ""}, {"x => {", "let x", "}", 15, "60 Block"}, {"x => {", "break", "}", 15, "61 Break"}, {"function f(x) {", "return", "}", 23, ""}, {"function f(x) {", "let x", "}", 22, "66 Block"},
		{"while (1)", "break", "", 46, ""}, {"while (1)", "continue a", "", 46, "93 Continue"}, {"try {", "return", "} finally {}", 23, "47 Return"},
	} {
		s := deep(c.begin, c.inner, c.end, c.count)
		if got := checked(t, parsed(t, s)); got != c.want {
			t.Errorf("Check(%q) tells %q; want %q", s, got, c.want)
		}
	}
	checkRight(t, "a: while (1) {"+deep("{", "{ continue a } break a; break", "}", 42)+"}", strings.Join(numbered("a", 45), ": ")+": for (;;) ;")
	labels := strings.Join(numbered("a", 44), ": ")
	for i := range 44 {
		name := strconv.Itoa(i)
		checkRight(t, labels+": for (;;) { continue a"+name+" }", labels+": { break a"+name+" }")
		checkWrong(t, map[string]string{
			labels + ": { continue a" + name + " }": "46 Continue", labels + ": a" + name + ": ;": "45 Label", labels + ": while (1) break b" + name: "47 Break",
		})
	}
}

func TestP8_4_CheckLeavesItsArgument(t *testing.T) {
	for _, one := range randomTrees(2, 500) {
		was := copied(one.tree)
		for i := range one.tree.Nodes {
			kids := append([]int{}, one.tree.Nodes[i].Kids...)
			one.tree.Nodes[i].Kids = append(kids, 7, 7, 7)[:len(kids)]
		}
		roomy := api.Tree{Nodes: append(one.tree.Nodes[:len(was.Nodes):len(was.Nodes)], make([]api.Node, 3)...)[:len(was.Nodes)]}
		n, errno := early.Check(roomy)
		for m := range roomy.Nodes {
			early.Names(roomy, m)
		}
		if m, other := early.Check(was); n != m || errno != other || !tree.Same(roomy, was) {
			t.Fatalf("Check(%q) changes its argument, or reads beyond it", one.source)
		}
		for i := range roomy.Nodes {
			kids := roomy.Nodes[i].Kids
			for _, kid := range kids[len(kids):cap(kids)][:3] {
				if kid != 7 {
					t.Fatalf("Check(%q) writes beyond its argument", one.source)
				}
			}
		}
	}
}
