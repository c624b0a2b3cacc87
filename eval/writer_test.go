package eval_test

import (
	"math/rand"
	"strconv"
	"strings"
)

// Kinds of what a random program computes with.
const (
	aNumber = iota
	aText
	aTruth
	aBig
	anObject
	anArray
	aFunction
	aTyped
	aBigTyped
	aView
	kindsOfAll
)

// variable is a name that a random program may use where it is.
type variable struct {
	name  string
	kind  int
	fixed bool
}

// writer writes random programs, most of which neither leave the supported part
// of the language nor run long. They gather what they compute in the text out.
type writer struct {
	*rand.Rand
	vars       []variable
	labels     []string // those of loops
	blocks     []string // those of other statements
	loops      int      // how many are around
	mayBreak   bool     // whether one of them is in the same function
	inFunction bool
	agents     bool // whether they request what agents do
	shared     bool // whether buffers may be shared
	left       int  // how many statements may follow
}

func newWriter(seed int64) *writer {
	r := rand.New(rand.NewSource(seed))
	return &writer{Rand: r, left: 8 + r.Intn(20), agents: r.Intn(2) == 0, shared: r.Intn(4) > 0}
}

// program is a random program.
func (w *writer) program() string {
	s := "let out = '', F = function (a) { this.a = a; this.b = out.length }; F.prototype.c = 5; "
	for range w.Intn(12) {
		s += w.declaration(0) + " "
	}
	return s + w.statements(0) + " throw out"
}

// one picks a text.
func (w *writer) one(list ...string) string { return list[w.Intn(len(list))] }

// words picks one of the words of s.
func (w *writer) words(s string) string { return w.one(strings.Fields(s)...) }

// often is true n times of 10.
func (w *writer) often(n int) bool { return w.Intn(10) < n }

func (w *writer) statements(depth int) string {
	saved := len(w.vars)
	s := ""
	for range 1 + w.Intn(5) {
		s += w.statement(depth) + " "
	}
	w.vars = w.vars[:saved]
	return s
}

func (w *writer) block(depth int) string { return "{ " + w.statements(depth+1) + "}" }

// named picks a variable of a kind, if there is one.
func (w *writer) named(kind int, mayBeFixed bool) (string, bool) {
	list := []string{}
	for _, v := range w.vars {
		if v.kind == kind && (mayBeFixed || !v.fixed || w.often(1)) {
			list = append(list, v.name)
		}
	}
	if len(list) == 0 {
		return "", false
	}
	return w.one(list...), true
}

// fresh is a name that may stand for something else further outside.
func (w *writer) fresh() string { return w.words("a b c d e f g h") + strconv.Itoa(w.Intn(30)) }

func (w *writer) declaration(depth int) string {
	kind := w.Intn(kindsOfAll)
	name := w.fresh()
	for _, v := range w.vars {
		if v.name == name {
			return w.log(depth)
		}
	}
	word := w.one("let", "let", "const")
	s := word + " " + name + " = " + w.value(kind, 0) + ";"
	if w.often(1) {
		// Ahead of its declaration it can't be used.
		s = w.log(depth) + " out += " + w.one("typeof "+name, name, "(() => "+name+")()") + "; " + s
		s = "try { " + strings.Replace(s, word+" "+name, word+" "+name+"_ = 1; "+word+" "+name, 1) + " } catch (e) { out += e.name }"
		return s
	}
	w.vars = append(w.vars, variable{name, kind, word == "const"})
	return s
}

func (w *writer) log(depth int) string {
	if w.often(7) {
		return "out += " + w.primitive(depth) + " + ' ';"
	}
	return "out += typeof " + w.value(w.Intn(kindsOfAll), 1) + ";"
}

func (w *writer) statement(depth int) string {
	w.left--
	if depth > 5 || w.left < 0 {
		return w.log(2)
	}
	switch w.Intn(25) {
	case 0, 1, 2, 3:
		return w.declaration(depth)
	case 4, 5, 6:
		return w.assignment()
	case 7:
		s := "if (" + w.value(aTruth, 1) + ") " + w.block(depth)
		if w.often(5) {
			s += " else " + w.block(depth)
		}
		return s
	case 8, 9:
		return w.loop(depth)
	case 10, 11:
		return w.try(depth)
	case 12:
		return w.function(depth)
	case 13:
		return w.jump()
	case 14:
		label := w.fresh() + "L"
		w.blocks = append(w.blocks, label)
		defer func() { w.blocks = w.blocks[:len(w.blocks)-1] }()
		return label + ": " + w.block(depth)
	case 15:
		return w.block(depth)
	case 16:
		return w.mistake()
	case 17, 18, 19, 20:
		if w.agents {
			return w.request()
		}
	}
	return w.log(1)
}

func (w *writer) assignment() string {
	kind := w.Intn(kindsOfAll)
	if name, ok := w.named(kind, false); ok && w.often(6) {
		if kind == aNumber && w.often(5) {
			return name + " " + w.words("+= -= &= |= ^= %=") + " " + w.value(aNumber, 1) + ";"
		}
		if kind == aText && w.often(5) {
			return name + " += " + w.primitive(1) + ";"
		}
		return name + " = " + w.value(kind, 1) + ";"
	}
	switch w.Intn(4) {
	case 0:
		if name, ok := w.named(anArray, true); ok {
			return w.one(name+".push("+w.primitive(1)+", "+w.primitive(1)+");", "out += "+name+".pop();", "out += "+name+"["+w.value(aNumber, 2)+" & 3];", "if ("+name+".length) "+name+"[0] = "+w.primitive(1)+";", name+"["+name+".length] = "+w.primitive(1)+";")
		}
	case 1:
		if name, ok := w.named(anObject, true); ok {
			return w.one(name+"."+w.words("a b c")+" = "+w.primitive(1)+";", name+"["+w.value(aText, 1)+"] = "+w.primitive(1)+";", "out += "+name+"."+w.words("a b c d")+";", "out += "+w.value(aText, 2)+" in "+name+";", "for (let k = Object.keys("+name+"), i = 0; i < k.length; i++) out += k[i];", name+"."+w.words("a b c")+"++;")
		}
	case 2:
		if name, ok := w.named(aTyped, true); ok {
			return name + "[" + w.value(aNumber, 2) + " & 7]" + w.words("= += -= |=") + w.value(aNumber, 1) + ";"
		}
	case 3:
		if name, ok := w.named(aView, true); ok {
			return name + ".set" + w.words("Int8 Uint8 Int16 Uint16 Int32 Uint32") + "(" + w.value(aNumber, 2) + " & 7, " + w.value(aNumber, 1) + ", " + w.value(aTruth, 2) + ");"
		}
	}
	return w.log(1)
}

func (w *writer) loop(depth int) string {
	if w.loops > 1 {
		return w.log(1)
	}
	w.loops++
	label := ""
	if w.often(4) {
		label = w.fresh() + "M"
		w.labels = append(w.labels, label)
		defer func() { w.labels = w.labels[:len(w.labels)-1] }()
		label += ": "
	}
	saved, mayBreak := len(w.vars), w.mayBreak
	w.mayBreak = true
	defer func() { w.loops, w.vars, w.mayBreak = w.loops-1, w.vars[:saved], mayBreak }()
	i := "i" + strconv.Itoa(w.loops) + strconv.Itoa(w.Intn(9))
	times := strconv.Itoa(1 + w.Intn(4))
	switch w.Intn(4) {
	case 0:
		return "{ let " + i + " = 0; " + label + "while (" + i + "++ < " + times + ") " + w.block(depth) + " }"
	case 1:
		w.vars = append(w.vars, variable{i, aNumber, true})
		return "{ let fs = []; " + label + "for (let " + i + " = 0; " + i + " < " + times + "; " + i + "++) { fs.push(() => " + i + w.one("", "++") + "); " + w.statements(depth+1) + "} while (fs.length) out += fs.pop()(); }"
	case 2:
		return "{ let " + i + "; " + label + "for (" + i + " = 0; " + i + " < " + times + "; " + i + "++) " + w.block(depth) + " out += " + i + "; }"
	}
	return label + "for (const " + i + " = {n: 0}; " + i + ".n++ < " + times + ";) " + w.block(depth)
}

func (w *writer) try(depth int) string {
	s := "try " + w.block(depth)
	if w.often(8) {
		s += " catch (e) { out += typeof e === 'object' && e !== null ? 'E' : e; " + w.statements(depth+1) + "}"
		if w.often(6) {
			return s
		}
	}
	return s + " finally " + w.block(depth)
}

func (w *writer) function(depth int) string {
	name := w.fresh() + "f"
	labels, blocks, in, mayBreak := w.labels, w.blocks, w.inFunction, w.mayBreak
	saved := len(w.vars)
	w.labels, w.blocks, w.inFunction, w.mayBreak = nil, nil, true, false
	w.vars = append(w.vars, variable{"x", aNumber, false})
	body := "{ " + w.statements(depth+2) + "return " + w.value(aNumber, 1) + " }"
	w.labels, w.blocks, w.inFunction, w.mayBreak = labels, blocks, in, mayBreak
	w.vars = w.vars[:saved]
	for _, v := range w.vars {
		if v.name == name {
			return w.log(1)
		}
	}
	w.vars = append(w.vars, variable{name, aFunction, false})
	if w.often(5) {
		return "let " + name + " = " + w.one("x => ", "function (x) ", "function g(x) ") + body + ";"
	}
	return "{ out += typeof " + name + "; function " + name + "(x) " + body + " out += " + name + "(" + w.value(aNumber, 1) + "); } let " + name + " = x => x + 1;"
}

// jump breaks, continues, returns or throws.
func (w *writer) jump() string {
	list := []string{"throw " + w.primitive(1) + ";"}
	if w.mayBreak {
		list = append(list, "break;", "continue;")
	}
	if len(w.labels) > 0 {
		list = append(list, "break "+w.one(w.labels...)+";", "continue "+w.one(w.labels...)+";")
	}
	if len(w.blocks) > 0 {
		list = append(list, "break "+w.one(w.blocks...)+";")
	}
	if w.inFunction {
		list = append(list, "return;", "return "+w.value(aNumber, 1)+";")
	}
	return "if (" + w.value(aTruth, 1) + ") " + w.one(list...)
}

// mistake is something that throws an error, which is caught.
func (w *writer) mistake() string {
	s := w.one("null.x", "nobody", "undefined()", "1n + 1", "BigInt('x')", "new ArrayBuffer(-1)", "new (() => 1)", "({}).x.y", "'a'.x = 1", "1n / 0n", "Atomics.load([], 0)", "new Int16Array(new ArrayBuffer(3))", "BigInt(NaN)", "'x' in 5", "Object.keys(null)", "new Int32Array(2)[0] = 1n", "new DataView(new ArrayBuffer(2)).getInt32(0)", "nobody = 1", "(function g() { g = 1 })()", "[].x()", "throw new RangeError('r')")
	if !strings.HasPrefix(s, "throw") && w.often(5) {
		s = "out += " + strings.TrimPrefix(s, "out += ")
	}
	if strings.Contains(s, "out += ") && strings.Contains(s[7:], " = ") || strings.Contains(s, "[].x") {
		s = "null[nobody2 = 1]"
	}
	return "try { " + s + " } catch (e) { out += e.name + e" + w.one(".name", ".name.length") + " }"
}

// request is something that agents do.
func (w *writer) request() string {
	return w.one("$262.agent.report("+w.primitive(1)+");", "out += $262.agent.getReport();", "$262.agent.sleep("+w.value(aNumber, 1)+");", "out += $262.agent.monotonicNow();", "$262.agent.start("+w.value(aText, 1)+");", "$262.agent.receiveBroadcast(q => { out += q.byteLength; "+w.log(1)+" });", "$262.agent.broadcast(new SharedArrayBuffer(8));", "out += Atomics.wait(new Int32Array(new SharedArrayBuffer(8)), 0, "+w.value(aNumber, 2)+", "+w.value(aNumber, 2)+");", "out += Atomics.notify(new Int32Array(new SharedArrayBuffer(8)), 0, "+w.value(aNumber, 2)+");")
}

// primitive is a value that can be made a text.
func (w *writer) primitive(depth int) string {
	return w.value([]int{aNumber, aNumber, aText, aTruth, aBig}[w.Intn(5)], depth)
}

// value is an expression of a kind.
func (w *writer) value(kind, depth int) string {
	if name, ok := w.named(kind, true); ok && w.often(6) {
		return name
	}
	switch kind {
	case aNumber:
		return w.number(depth)
	case aText:
		return w.text(depth)
	case aTruth:
		return w.truth(depth)
	case aBig:
		return w.big(depth)
	case anObject:
		return w.object(depth)
	case anArray:
		return w.one("[]", "["+w.primitive(depth+1)+", "+w.primitive(depth+1)+"]", "Object.keys("+w.object(depth+1)+")")
	case aFunction:
		return w.one("(x => x + 1)", "(function (x) { return x & 3 })", "(x => { out += x; return 7 })", "(function g(x) { return x > 0 && x < 9 ? g(x - 1) : 1 })", "(x => "+w.number(depth+1)+")")
	case aTyped:
		return "new " + w.words("Int8Array Uint8Array Int16Array Uint16Array Int32Array Uint32Array") + w.part()
	case aBigTyped:
		return "new " + w.words("BigInt64Array BigUint64Array") + w.part()
	}
	return "new DataView(" + w.buffer() + w.one("", ", 1", ", 2, 12") + ")"
}

func (w *writer) buffer() string {
	if w.shared && w.often(6) {
		return "new SharedArrayBuffer(16)"
	}
	return "new ArrayBuffer(16)"
}

// part is what a typed array is made of.
func (w *writer) part() string {
	if name, ok := w.named(aTyped, true); ok && w.often(4) {
		return "(" + name + ".buffer)"
	}
	return w.one("(4)", "("+w.buffer()+")", "("+w.buffer()+", 8)", "("+w.buffer()+", 8, 1)")
}

func (w *writer) number(depth int) string {
	if depth > 3 || w.often(3) {
		return w.one("0", "1", "2", "3", "7", "255", "-1", "-0", "65536", "NaN", "4294967295")
	}
	typed, isTyped := w.named(aTyped, true)
	view, isView := w.named(aView, true)
	function, isFunction := w.named(aFunction, true)
	switch n := w.Intn(16); {
	case n < 4:
		return "(" + w.value(aNumber, depth+1) + " " + w.words("+ - % & | ^ << >> >>>") + " " + w.value(aNumber, depth+1) + ")"
	case n == 4:
		return w.words("- ~ +") + "(" + w.value(aNumber, depth+1) + ")"
	case n == 5:
		return w.value(w.one2(anArray, aText), depth+1) + ".length"
	case n == 6:
		return "(" + w.value(aTruth, depth+1) + " ? " + w.value(aNumber, depth+1) + " : " + w.value(aNumber, depth+1) + ")"
	case n == 7:
		return "Number(" + w.value(w.one2(aTruth, aNumber), depth+1) + ")"
	case n == 8:
		if name, ok := w.named(aNumber, false); ok {
			return w.one("("+name+"++)", "(--"+name+")", "("+name+" = "+w.value(aNumber, depth+1)+")")
		}
	case n < 11 && isTyped:
		return w.one(typed+"["+w.value(aNumber, depth+1)+" & 1]", "Atomics."+w.words("add and or sub xor exchange store")+"("+typed+", "+w.value(aNumber, depth+1)+" & 1, "+w.value(aNumber, depth+1)+")", "Atomics.load("+typed+", 0)", "Atomics.compareExchange("+typed+", 0, "+w.value(aNumber, depth+1)+", "+w.value(aNumber, depth+1)+")", typed+".length", typed+".byteLength", typed+".byteOffset", "(+"+typed+"["+w.value(aNumber, depth+1)+" & 7])")
	case n == 11 && isView:
		return w.one(view+".get"+w.words("Int8 Uint8 Int16 Uint16 Int32 Uint32")+"("+w.value(aNumber, depth+1)+" & 7, "+w.value(aTruth, depth+1)+")", view+".byteLength", view+".byteOffset")
	case n < 14 && isFunction:
		return "(" + function + "(" + w.value(aNumber, depth+1) + ") & 255)"
	}
	return strconv.Itoa(w.Intn(100))
}

func (w *writer) one2(a, b int) int { return []int{a, b}[w.Intn(2)] }

func (w *writer) text(depth int) string {
	if depth > 3 || w.often(4) {
		return w.one("'a'", "'b'", "'c'", "'xyz'", "''", "'7'", "'0'", "'d'")
	}
	switch w.Intn(5) {
	case 0:
		return "(" + w.value(aText, depth+1) + " + " + w.primitive(depth+1) + ")"
	case 1:
		return "(typeof " + w.value(w.Intn(kindsOfAll), depth+1) + ")"
	case 2:
		return "String(" + w.primitive(depth+1) + ")"
	case 3:
		return "('abc'[" + w.value(aNumber, depth+1) + " & 3] + '')"
	}
	return w.one("Error("+w.value(aText, depth+1)+").message", "new TypeError().name")
}

func (w *writer) truth(depth int) string {
	if depth > 3 || w.often(2) {
		return w.one("true", "false")
	}
	switch w.Intn(6) {
	case 0:
		return "(" + w.value(aNumber, depth+1) + " " + w.words("< > <= >= == != === !==") + " " + w.value(aNumber, depth+1) + ")"
	case 1:
		return "!" + w.value(w.Intn(kindsOfAll), depth+1)
	case 2:
		return "(" + w.value(aTruth, depth+1) + " " + w.words("&& ||") + " " + w.value(aTruth, depth+1) + ")"
	case 3:
		return "Boolean(" + w.primitive(depth+1) + ")"
	case 4:
		return "(" + w.primitive(depth+1) + " === " + w.primitive(depth+1) + ")"
	}
	return w.one("Array.isArray("+w.value(w.Intn(kindsOfAll), depth+1)+")", "("+w.value(aText, depth+1)+" < "+w.value(aText, depth+1)+")", "("+w.value(aBig, depth+1)+" < "+w.value(aNumber, depth+1)+")", "(null ?? "+w.value(aTruth, depth+1)+")")
}

func (w *writer) big(depth int) string {
	typed, isTyped := w.named(aBigTyped, true)
	switch {
	case depth > 3 || w.often(5):
		return w.one("0n", "1n", "-2n", "18446744073709551615n", "9223372036854775808n")
	case isTyped && w.often(5):
		return w.one(typed+"[0]", "Atomics."+w.words("add and or sub xor exchange store")+"("+typed+", 0, "+w.value(aBig, depth+1)+")", "Atomics.load("+typed+", 0)", "Atomics.compareExchange("+typed+", 0, "+w.value(aBig, depth+1)+", "+w.value(aBig, depth+1)+")", "("+typed+"[0] = "+w.value(aBig, depth+1)+")")
	case w.often(3):
		return "BigInt(" + w.value(aTruth, depth+1) + ")"
	}
	return "(" + w.value(aBig, depth+1) + " " + w.words("+ - *") + " " + w.one("1n", "3n", "-1n") + ")"
}

func (w *writer) object(depth int) string {
	if depth > 3 {
		return "{}"
	}
	return w.one("({})", "({a: "+w.primitive(depth+1)+", "+w.words("b c 1 0")+": "+w.primitive(depth+1)+"})", "new F("+w.primitive(depth+1)+")", "Object.create({a: "+w.primitive(depth+1)+"})", "Object.create(null)")
}
