package eval_test

import (
	"strings"
	"testing"
)

func TestP12_1_Ends(t *testing.T) {
	checkEnds(t, map[string]string{
		"": "done", ";": "done", "5": "done", "let x = 1; x = x + 1": "done", "throw 1": "thrown 1", "throw -0": "thrown 0", "throw NaN": "thrown NaN", "throw -Infinity": "thrown -Infinity", "throw 9007199254740991": "thrown 9007199254740991", "throw 'a b'": "thrown a b", "throw ''": "thrown ", "throw 'é'": "thrown ?", "throw undefined": "thrown undefined", "throw null": "thrown null", "throw true": "thrown true", "throw false": "thrown false", "throw -12n": "thrown -12",
		"throw new Error('a')": "thrown Error", "throw TypeError('a')": "thrown TypeError", "throw new RangeError": "thrown RangeError", "throw ReferenceError()": "thrown ReferenceError", "throw new SyntaxError('x')": "thrown SyntaxError",
		"throw {}": "thrown object", "throw []": "thrown object", "throw () => 1": "thrown object", "throw Object": "thrown object", "throw Atomics": "thrown object", "throw Error": "thrown object", "throw new ArrayBuffer(1)": "thrown object", "throw new Int8Array(1)": "thrown object", "throw new DataView(new ArrayBuffer(1))": "thrown object", "throw {name: 'a'}": "thrown object",
		"throw 1; throw 2": "thrown 1", "1 / 2; throw 1": "exited", "throw 1; 1 / 2": "thrown 1",
	})
	long := strings.Repeat("x", 4000)
	if got := next(t, "throw '"+long+"'", wide()); got != "thrown "+long {
		t.Errorf("a long text: %s", got)
	}
	checkAsked(t, "", []asked{{"throw new SharedArrayBuffer(1)", some(), "thrown object"}})
}

func TestP12_1_ReadNames(t *testing.T) {
	checkEnds(t, map[string]string{
		"let a = 1; throw a": "thrown 1", "let a; throw a": "thrown undefined", "const a = 1, b = a; throw b": "thrown 1", "let a = 1; { throw a }": "thrown 1", "let a = 1; { let a = 2; throw a }": "thrown 2", "let a = 1; { let a = 2 } throw a": "thrown 1", "let a = 1; { { { throw a } } }": "thrown 1",
		"a": "thrown ReferenceError", "a; let a": "thrown ReferenceError", "a; const a = 1": "thrown ReferenceError", "let a = a": "thrown ReferenceError", "let a = b, b": "thrown ReferenceError", "let a = 1; { a; let a }": "thrown ReferenceError", "let a = 1; { let a = a }": "thrown ReferenceError", "{ let a } a": "thrown ReferenceError", "{ function f() { } } f": "thrown ReferenceError",
		"let f = () => a; f(); let a": "thrown ReferenceError", "let f = () => a; let a = 3; throw f()": "thrown 3", "let undefined = 4; throw undefined": "thrown 4", "let NaN = 5; throw NaN": "thrown 5", "let Object = 6; throw Object": "thrown 6", "let Math = 7; throw Math": "thrown 7", "{ let Object = 6 } throw typeof Object": "thrown function", "undefined; let undefined": "thrown ReferenceError", "Math; let Math": "thrown ReferenceError",
		"let $ = 1, _ = 2, a1 = 3; throw $ + _ + a1": "thrown 6", "let a = 1, A = 2; throw a": "thrown 1", "throw (a => a)(5)": "thrown 5", "(a => a)(5); a": "thrown ReferenceError",
	})
}

func TestP12_1_SetNames(t *testing.T) {
	checkEnds(t, map[string]string{
		"let a = 1; a = 2; throw a": "thrown 2", "let a = 1; { a = 2 } throw a": "thrown 2", "let a = 1; { let a; a = 2 } throw a": "thrown 1", "let a = 1; (() => { a = 3 })(); throw a": "thrown 3", "a = 1": "thrown ReferenceError", "a = 1; let a": "thrown ReferenceError", "a = 1; const a = 2": "thrown ReferenceError", "const a = 1; a = 2": "thrown TypeError", "const a = 1; { a = 2 }": "thrown TypeError", "const a = 1; try { a = 2 } catch { } throw a": "thrown 1", "const a = 1; a += 1": "thrown TypeError", "const a = 1; ++a": "thrown TypeError", "let a = 1; { a = 2; let a }": "thrown ReferenceError",
		"let a = (a = 1)": "thrown ReferenceError", "const a = (a = 1)": "thrown ReferenceError", "function f() { } f = 1; throw f": "thrown 1", "(a => { a = 2; throw a })(1)": "thrown 2", "try { throw 1 } catch (e) { e = 2; throw e }": "thrown 2", "undefined = 1": "exited", "NaN = 1": "exited", "Infinity = 1": "exited", "Object = 1": "exited", "Atomics = 1": "exited", "$262 = 1": "exited", "Math = 1": "exited", "JSON = 1": "exited", "let Math; Math = 1; throw Math": "thrown 1", "undefined += 1": "exited", "undefined++": "exited", "Math++": "exited", "a++": "thrown ReferenceError", "a += 1": "thrown ReferenceError",
		// The value comes first.
		"a = b": "thrown ReferenceError", "a = 1 / 2": "exited", "Math = null.x": "thrown TypeError", "const a = 1; a = (() => { throw 5 })()": "thrown 5", "let b; try { nobody = (b = 7) } catch { throw b }": "thrown 7",
	})
}

// The names of the outermost scope.
const objectNames = "Object Array Number BigInt String Boolean Error TypeError RangeError ReferenceError SyntaxError ArrayBuffer SharedArrayBuffer DataView Int8Array Uint8Array Int16Array Uint16Array Int32Array Uint32Array BigInt64Array BigUint64Array Atomics $262"

const unsupportedNames = "globalThis AggregateError Date EvalError FinalizationRegistry Float32Array Float64Array Function Iterator JSON Map Math Promise Proxy Reflect RegExp Set Symbol URIError Uint8ClampedArray WeakMap WeakRef WeakSet decodeURI decodeURIComponent encodeURI encodeURIComponent escape isFinite isNaN parseFloat parseInt unescape"

// members are all that intrinsics have.
const members = "Object.keys Object.create Array.isArray Atomics.load Atomics.store Atomics.add Atomics.and Atomics.or Atomics.sub Atomics.xor Atomics.exchange Atomics.compareExchange Atomics.isLockFree Atomics.wait Atomics.notify $262.agent $262.agent.start $262.agent.broadcast $262.agent.receiveBroadcast $262.agent.report $262.agent.getReport $262.agent.sleep $262.agent.monotonicNow"

// viewNames are the members of views.
const viewNames = "getInt8 getUint8 getInt16 getUint16 getInt32 getUint32 getBigInt64 getBigUint64 setInt8 setUint8 setInt16 setUint16 setInt32 setUint32 setBigInt64 setBigUint64"

func TestP12_1_IntrinsicNames(t *testing.T) {
	checkValues(t, "", map[string]string{"undefined": "undefined", "NaN": "NaN", "Infinity": "Infinity", "typeof undefined": "undefined", "typeof NaN": "number", "typeof Infinity": "number"})
	all := strings.Fields(objectNames + " " + members + " [].push [].pop")
	for _, name := range strings.Fields(viewNames) {
		all = append(all, "v."+name)
	}
	same := []string{}
	for _, name := range all {
		kind := "function"
		if name == "Atomics" || name == "$262" || name == "$262.agent" {
			kind = "object"
		}
		checkValues(t, "let v = new DataView(new ArrayBuffer(1))", map[string]string{"typeof " + name: kind, name + " === " + name: "true", name: "object", "!" + name: "false", "[" + name + "][0] === " + name: "true"})
		same = append(same, name)
	}
	// Each of them is an object of its own.
	checkEnds(t, map[string]string{"let v = new DataView(new ArrayBuffer(1)), l = [" + strings.Join(same, ", ") + "], n = 0, i = 0, j; for (; i < l.length; i++) for (j = 0; j < l.length; j++) if (l[i] === l[j]) n++; throw '' + n + ' ' + l.length": "thrown 65 65"})
	checkEnds(t, map[string]string{"let v = new DataView(new ArrayBuffer(1)), w = new DataView(new ArrayBuffer(2), 1); throw '' + (v.getInt8 === w.getInt8) + ([].push === [1].push) + (v.getInt8 === v.setInt8) + (v.getInt8 === v.getUint8)": "thrown truetruefalsefalse"})
}

func TestP12_1_UnsupportedNames(t *testing.T) {
	for _, name := range strings.Fields(unsupportedNames) {
		checkAll(t, "exited", name, "typeof "+name, name+" = 1", name+"()", "new "+name, "try { "+name+" } catch { }", name+"++")
		checkEnds(t, map[string]string{"let " + name + " = 3; throw " + name: "thrown 3"})
	}
	// Other names are none at all.
	for _, name := range strings.Fields("a object Objects Obj array Errors maths math BigInt8Array Float16Array console window Int8 agent start getInt8 keys push Array_ undefined_ hasOwnProperty toString constructor __proto__ $ $26 $2622 prototype length") {
		checkAll(t, "thrown ReferenceError", name, name+" = 1", name+"++")
		checkValues(t, "", map[string]string{"typeof " + name: "undefined", "typeof (" + name + ")": "undefined"})
	}
}

func TestP12_1_Turns(t *testing.T) {
	checkEnds(t, map[string]string{
		"let l = []; for (let i = 0; i < 3; i++) l.push(() => i); throw '' + l[0]() + l[1]() + l[2]()":                         "thrown 012",
		"let l = []; for (let i = 0, f = () => i; i < 2; i++) l.push(f); throw '' + l[0]() + l[1]()":                           "thrown 00",
		"let l = []; for (const i = 7; l.length < 2;) l.push(() => i); throw '' + l[0]() + l[1]()":                             "thrown 77",
		"let l = []; for (let i = 0; i < 3; l[l.length] = () => i) i++; throw '' + l[0]() + l[1]() + l[2]()":                   "thrown 233",
		"let l = []; for (let i = 0; l.push(() => i) < 3; i++) ; throw '' + l[0]() + l[1]() + l[2]()":                          "thrown 012",
		"let l = []; for (let i = 0; i < 2; i++) { l.push(() => i); i += 10 } throw '' + l[0]()":                               "thrown 10",
		"let l = []; for (let i = 0; i < 4; i++) { l.push(() => i++); } throw '' + l[0]() + l[0]() + l[1]() + l[1]() + l[3]()": "thrown 01123",
		"let l = []; for (let i = 0, j = 5; i < 2; i++) { j++; l.push(() => i * 10 + j) } throw '' + l[0]() + ' ' + l[1]()":    "thrown 6 17",
		"let f; for (let i = 1, j = f = () => i; i < 5; i++) ; throw f()":                                                      "thrown 1",
		"let f, set; for (let i = 1, j = set = v => { i = v }; i < 2; i++) { set(9); f = () => i } throw f()":                  "thrown 1",
		"let i = 9; for (let i = 0; i < 2; i++) ; throw i":                                                                     "thrown 9",
		"let i = 9; for (i = 0; i < 2; i++) ; throw i":                                                                         "thrown 2",
		"for (let i = i;;) ;":                                                 "thrown ReferenceError",
		"for (let i = 0, j = k, k;;) ;":                                       "thrown ReferenceError",
		"for (const i = 0; i < 1; i++) ;":                                     "thrown TypeError",
		"let n = 0; for (const o = {i: 0}; o.i < 3; o.i++) n += o.i; throw n": "thrown 3",
		"let l = []; for (let i = 0; i < 3; i++) { if (i == 1) continue; l.push(() => i) } throw '' + l[0]() + l[1]()":                           "thrown 02",
		"let l = []; a: for (let i = 0; i < 2; i++) for (let j = 0;; j++) { l.push(() => '' + i + j); continue a } throw '' + l[0]() + l[1]()":   "thrown 0010",
		"for (let i = 0; i < 1; i++) { let i = 5; throw i }":                                                                                     "thrown 5",
		"let n = ''; for (let i = 0; i < 2; i++) { let x; n += x; x = i } throw n":                                                               "thrown undefinedundefined",
		"let l = [], n = 0; while (n < 2) { let x = n++; l.push(() => x) } throw '' + l[0]() + l[1]()":                                           "thrown 01",
		"let f; for (let i = 0; i < 1; i++) { f = () => g(); function g() { return i } } throw f()":                                              "thrown 0",
		"let l = []; for (let i = 0; i < 2; i++) { function g() { return i } l.push(g) } throw '' + l[0]() + l[1]() + (l[0] === l[1])":           "thrown 01false",
		"let c; for (let i = 0, get = () => i, inc = () => { i++ }; !c; c = 1) { inc(); inc(); if (get() !== 2 || i !== 0) throw 'no' } throw c": "thrown 1",
	})
}
