package agent_test

import (
	"math/rand"
	"strconv"
	"strings"

	"rendezvous/eval"
)

// writer writes random programs in which anything may stand anywhere: most of them
// soon throw something, which they catch as often as not.
type writer struct {
	*rand.Rand
	loops  []string // labels of loops around, in the same function
	blocks []string // labels of other statements
	inLoop bool
	inFunc bool
	names  int // how many labels there were
}

func newWriter(seed int64) *writer {
	return &writer{Rand: rand.New(rand.NewSource(seed))}
}

func (w *writer) one(list ...string) string { return list[w.Intn(len(list))] }

func (w *writer) words(s string) string { return w.one(strings.Fields(s)...) }

// answers are n random answers.
func (w *writer) answers(n int) []eval.Ans {
	list := []eval.Ans{}
	for range n {
		x := eval.Ans{Word: uint64(w.Intn(5)), Block: w.Intn(3), Len: 8 * w.Intn(4), Text: ascii(w.words("a b tell 5"))}
		if w.Intn(8) == 0 {
			x = eval.Ans{Word: w.Uint64(), Code: w.Intn(3), Block: -w.Intn(3), Len: w.Intn(5) - 2}
		}
		list = append(list, x)
	}
	return list
}

func (w *writer) program() string {
	s := "let now = $262.agent.monotonicNow, t = new Int32Array(new SharedArrayBuffer(16)), g = new BigInt64Array(t.buffer), v = new DataView(t.buffer), o = {a: 1}, l = [2], n = 0, s = ''; let f = function (x) { s += typeof this; return x }; "
	for range 2 + w.Intn(5) {
		s += w.one("try { "+w.statement(3)+" } catch (e) { s += typeof e } ", w.statement(3)+" ")
	}
	return s + w.one("throw s + n", "")
}

func (w *writer) statements(depth int) string {
	s := ""
	for range 1 + w.Intn(3) {
		s += w.statement(depth) + " "
	}
	return s
}

func (w *writer) block(depth int) string {
	if w.Intn(4) == 0 {
		return "{ " + w.words("let const") + " " + w.words("a b c") + " = " + w.expr(depth) + "; " + w.statements(depth) + "}"
	}
	return "{ " + w.statements(depth) + "}"
}

func (w *writer) statement(depth int) string {
	if depth <= 0 {
		return w.expr(1) + ";"
	}
	d := depth - 1
	switch w.Intn(16) {
	case 0:
		return "if (" + w.expr(d) + ") " + w.block(d) + w.one("", " else "+w.block(d))
	case 1, 2:
		return w.loop(d)
	case 3, 4, 5, 6:
		return w.try(d)
	case 7:
		return w.labelled(d)
	case 8:
		return w.jump(d)
	case 9:
		return w.one("throw ", "if ("+w.expr(d)+") throw ", "s += ") + w.expr(d) + ";"
	case 10:
		return w.block(d)
	case 11:
		return "{ function " + w.words("a b c") + "(" + w.words("x y") + ") " + w.body(d) + " s += " + w.words("a b c") + "(" + w.expr(d) + ") }"
	case 12:
		return "s += " + w.expr(d) + ";"
	}
	return w.expr(depth) + ";"
}

func (w *writer) try(d int) string {
	switch w.Intn(4) {
	case 0:
		return "try " + w.block(d) + " catch " + w.block(d)
	case 1:
		return "try " + w.block(d) + " finally " + w.block(d)
	case 2:
		return "try " + w.block(d) + " catch (e) { s += typeof e; " + w.statements(d) + "} finally " + w.block(d)
	}
	return "try " + w.block(d) + " catch (e) " + w.block(d)
}

// jump is a jump that may stand there.
func (w *writer) jump(d int) string {
	list := []string{"s += 'j';"}
	if w.inFunc {
		list = append(list, "return;", "return "+w.expr(d)+";")
	}
	if w.inLoop {
		list = append(list, "break;", "continue;", "if ("+w.expr(d)+") break;", "if ("+w.expr(d)+") continue;")
	}
	for _, label := range w.loops {
		list = append(list, "break "+label+";", "continue "+label+";")
	}
	for _, label := range w.blocks {
		list = append(list, "break "+label+";")
	}
	return w.one(list...)
}

func (w *writer) label() string {
	w.names++
	return "q" + strconv.Itoa(w.names)
}

func (w *writer) labelled(d int) string {
	label := w.label()
	w.blocks = append(w.blocks, label)
	s := label + ": " + w.one(w.block(d), w.try(d), "if ("+w.expr(d)+") "+w.block(d))
	w.blocks = w.blocks[:len(w.blocks)-1]
	return s
}

// loop is a loop with up to two labels; the counter n keeps most loops short.
func (w *writer) loop(d int) string {
	was, around, labels := w.inLoop, len(w.loops), ""
	for range w.Intn(3) {
		label := w.label()
		w.loops = append(w.loops, label)
		labels += label + ": "
	}
	w.inLoop = true
	s := w.head(d) + " " + w.block(d)
	w.inLoop, w.loops = was, w.loops[:around]
	return labels + s
}

// head is that of a loop.
func (w *writer) head(d int) string {
	test := w.one("n++ < 9", "n++ < 5 && "+w.expr(d), "n++ < "+strconv.Itoa(w.Intn(12)))
	switch w.Intn(6) {
	case 0:
		return "for (let i = " + w.expr(d) + ", j = 0; j < 3; j++)"
	case 1:
		return "for (let i = 0; i < 2 && " + test + "; i++)"
	case 2:
		return "for (const i = " + w.expr(d) + "; " + test + "; " + w.expr(d) + ")"
	case 3:
		return "for (" + w.one("", w.expr(d)) + "; " + test + "; " + w.one("", w.expr(d)) + ")"
	}
	return "while (" + test + ")"
}

// body is that of a function.
func (w *writer) body(d int) string {
	loops, blocks, inLoop, inFunc := w.loops, w.blocks, w.inLoop, w.inFunc
	w.loops, w.blocks, w.inLoop, w.inFunc = nil, nil, false, true
	s := "{ " + w.statements(d) + w.one("", "return "+w.expr(d)+"; ") + "}"
	w.loops, w.blocks, w.inLoop, w.inFunc = loops, blocks, inLoop, inFunc
	return s
}

func (w *writer) expr(depth int) string {
	if depth <= 0 {
		return w.leaf()
	}
	d := depth - 1
	if w.Intn(3) == 0 {
		return "(" + w.request(d) + ")"
	}
	if w.Intn(3) == 0 {
		return "(" + w.calls(d) + ")"
	}
	switch w.Intn(12) {
	case 0:
		return "[" + w.expr(d) + ", " + w.expr(d) + "][" + w.words("0 1 2 'length'") + "]"
	case 1:
		return "({a: " + w.expr(d) + ", " + w.words("b c __proto__") + ": " + w.expr(d) + "})." + w.words("a b c")
	case 2:
		return "(" + w.words("- + ! ~ typeof void") + " " + w.expr(d) + ")"
	case 3:
		return "(" + w.expr(d) + " " + w.words("+ - * % & < > >= == === !==") + " " + w.expr(d) + ")"
	case 4:
		return "(" + w.expr(d) + " " + w.words("&& || ??") + " " + w.expr(d) + ")"
	case 5:
		return "(" + w.expr(d) + " ? " + w.expr(d) + " : " + w.expr(d) + ")"
	case 6, 7:
		return "(" + w.target(d) + " " + w.words("= = += -= |= *=") + " " + w.expr(d) + ")"
	case 8:
		return "(" + w.one("++"+w.target(d), w.target(d)+"++", "--"+w.target(d), w.target(d)+"--") + ")"
	case 9:
		return "(" + w.leaf() + " in " + w.words("o l t") + ")"
	}
	return w.target(d)
}

// request is an expression that requests something.
func (w *writer) request(d int) string {
	at := w.one(w.words("0 1 2 3"), w.words("0 9 n 2"), "now()", w.expr(d))
	switch w.Intn(12) {
	case 0, 1, 2:
		return "now()"
	case 3, 4:
		return "t[" + at + "]"
	case 5:
		return "t[" + at + "] " + w.words("= += -=") + " " + w.expr(d)
	case 6:
		return w.one("t["+at+"]++", "--t["+at+"]", "g["+w.words("0 1")+"]++", "g[0] += 1n")
	case 7:
		return "Atomics." + w.words("add sub exchange store or") + "(t, " + at + ", " + w.expr(d) + ")"
	case 8:
		return w.one("Atomics.load(t, "+at+")", "Atomics.wait(t, "+at+", "+w.expr(d)+")", "Atomics.notify(t, "+at+")", "Atomics.compareExchange(t, 0, "+w.expr(d)+", "+at+")")
	case 9:
		return w.one("v.getInt16("+at+")", "v.setInt16("+at+", "+w.expr(d)+")")
	case 10:
		return "$262.agent." + w.one("report("+w.expr(d)+")", "getReport()", "sleep("+w.expr(d)+")", "start('a' + "+w.expr(d)+")", "broadcast(t.buffer)")
	}
	return w.one("new SharedArrayBuffer("+at+").byteLength", "$262.agent.receiveBroadcast("+w.function(d)+")")
}

func (w *writer) function(d int) string {
	switch w.Intn(4) {
	case 0:
		return "(" + w.words("x y") + " => " + w.expr(d) + ")"
	case 1:
		return "((x, y) => " + w.body(d) + ")"
	case 2:
		return "(function (x) " + w.body(d) + ")"
	}
	return "(function h(x) " + w.body(d) + ")"
}

// calls is an expression that calls something.
func (w *writer) calls(d int) string {
	switch w.Intn(8) {
	case 0:
		return w.function(d) + "(" + w.expr(d) + ", " + w.expr(d) + ")"
	case 1:
		return "new " + w.function(d) + "(" + w.expr(d) + ")"
	case 2:
		return "o." + w.words("m a") + "(" + w.expr(d) + ")"
	case 3:
		return "(o.m = " + w.function(d) + ")(" + w.expr(d) + ")"
	case 4:
		return "({m: " + w.function(d) + ", a: 3})" + w.one(".m", "['m']", "[now() ? 'm' : 'm']") + "(" + w.expr(d) + ")"
	case 5:
		return "l." + w.one("push("+w.expr(d)+", "+w.expr(d)+")", "pop()")
	case 6:
		return w.one("String", "Number", "Boolean", "new Error", "BigInt", "Object.keys", "Array.isArray") + "(" + w.expr(d) + ")"
	}
	return w.one("f", "f", "f", "new f", "a") + "(" + w.expr(d) + ")"
}

func (w *writer) target(d int) string {
	switch w.Intn(8) {
	case 0:
		return "o." + w.words("a b c")
	case 1:
		return "o[" + w.expr(d) + "]"
	case 2:
		return "l[" + w.words("0 1 2 l.length") + "]"
	case 3:
		return "t[" + w.one("now()", "n", w.expr(d)) + "]"
	case 4:
		return w.words("a b c x y i this.a nobody")
	}
	return w.words("s n o.a l[0] t[0]")
}

func (w *writer) leaf() string {
	switch w.Intn(60) {
	case 0:
		return w.words("this 1/2 Math 3n 1.a o l")
	case 1, 2:
		return w.words("a b c x y i e undefined NaN nobody null.a")
	}
	return w.words("0 1 2 3 'a' '' true false null n s o.a now() now() t[0]")
}
