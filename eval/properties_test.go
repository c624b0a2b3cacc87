package eval_test

import (
	"strings"
	"testing"
)

// ofRoot are the properties of the object from which all others are derived.
const ofRoot = "constructor __defineGetter__ __defineSetter__ hasOwnProperty __lookupGetter__ __lookupSetter__ isPrototypeOf propertyIsEnumerable toString valueOf __proto__ toLocaleString"

func TestP12_1_ReadPlain(t *testing.T) {
	checkValues(t, "let p = {a: 1, b: 2}, o = Object.create(p), n = Object.create(null), m = Object.create(n); o.b = 3; n.c = 4", map[string]string{
		"p.a": "1", "p['a']": "1", "p.c": "undefined", "o.a": "1", "o.b": "3", "p.b": "2", "o.c": "undefined", "n.c": "4", "m.c": "4", "n.a": "undefined",
		"({1: 5})[1]": "5", "({1: 5})['1']": "5", "({1: 5})[1n]": "5", "({null: 6})[null]": "6", "({undefined: 7})[undefined]": "7", "({true: 8})[1 < 2]": "8", "({NaN: 9})[NaN]": "9", "({0: 9})[-0]": "9", "({'-1': 9})[-1]": "9", "({a: 1}).A": "undefined", "({})['']": "undefined", "({})['toString ']": "undefined", "({}).to": "undefined", "({}).length": "undefined", "({}).keys": "undefined", "({}).push": "undefined", "({}).hasOwn": "undefined", "({}).prototype": "undefined", "({}).name": "undefined", "({'é': 1})['é']": "1", "({}).if": "undefined",
	})
	for _, name := range strings.Fields(ofRoot) {
		checkAll(t, "exited", "({})."+name, "({})['"+name+"']", "Object.create({a: 1})."+name, "'"+name+"' in {}", "'"+name+"' in Object.create({})")
		checkValues(t, "", map[string]string{"Object.create(null)." + name: "undefined", "Object.create(Object.create(null))." + name: "undefined", "'" + name + "' in Object.create(null)": "false", "({})." + name + "x": "undefined", "({})['" + name[1:] + "']": "undefined"})
		if name != "__proto__" {
			checkValues(t, "", map[string]string{"({" + name + ": 5})." + name: "5", "Object.create({" + name + ": 5})." + name: "5", "'" + name + "' in {" + name + ": 5}": "true"})
			checkEnds(t, map[string]string{"let o = {}; o." + name + " = 6; throw o." + name: "thrown 6"})
		}
	}
	checkEnds(t, map[string]string{
		"null.x": "thrown TypeError", "undefined.x": "thrown TypeError", "null['x']": "thrown TypeError", "null[{}]": "thrown TypeError", "undefined[null]": "thrown TypeError", "({}).a.b": "thrown TypeError", "({a: 1}).a.b": "exited", "({})[{}]": "exited", "({})[[]]": "exited", "({})[() => 1]": "exited", "({})[Object]": "exited", "nobody.x": "thrown ReferenceError", "nobody[1 / 2]": "thrown ReferenceError", "null[nobody]": "thrown ReferenceError", "({})[nobody]": "thrown ReferenceError", "null[1 / 2]": "exited", "(1 / 2).x": "exited",
		"let s = ''; (() => { s += 1; return {} })()[(() => { s += 2; return 'a' })()]; throw s": "thrown 12",
	})
}

func TestP12_1_ReadOfPrimitives(t *testing.T) {
	checkValues(t, "let s = 'abc', long = '', i = 0; while (i < 12) { long += i++ }", map[string]string{
		"s.length": "3", "s['length']": "3", "s[0]": "a", "s[2]": "c", "s['1']": "b", "s[3]": "undefined", "s[4294967294]": "undefined", "s[1n]": "b", "s[-0]": "a", "''.length": "0", "''[0]": "undefined", "'é'.length": "1", "'é'[0] === 'é'": "true", "'😀'.length": "2", "'😀'[0] === '\\ud83d'": "true", "s[1].length": "1", "typeof s[1]": "string", "long.length": "14", "long[11]": "0", "long[13]": "1",
	})
	checkAll(t, "exited", "'a'.x", "'a'[-1]", "'a'['01']", "'a'['1.5']", "'a'[4294967295]", "'a'[' 0']", "'a'['']", "'a'.toString", "'a'.constructor", "'a'.__proto__", "'a'.Length", "'a'.at", "'a'[{}]", "'a'[NaN]", "'a'[null]", "true.x", "false.toString", "(1).x", "(1)[0]", "NaN.x", "1n.x", "1n[0]", "true.length", "(1)[{}]")
}

func TestP12_1_ReadOfObjects(t *testing.T) {
	checkValues(t, "let l = [5, 6], f = function (a, b) { }, e = new TypeError('m'), b = new ArrayBuffer(8), t = new Int16Array(b, 2, 2), v = new DataView(b, 3, 4)", map[string]string{
		"l.length": "2", "l['length']": "2", "l[0]": "5", "l['1']": "6", "l[2]": "undefined", "l[4294967294]": "undefined", "l[1n]": "6", "typeof l.push": "function", "typeof l['pop']": "function", "typeof f.prototype": "object", "f.prototype === f.prototype": "true", "f.prototype === (function () { }).prototype": "false", "f.prototype.x": "undefined", "e.name": "TypeError", "e.message": "m", "e['message'].length": "1", "new Error().name": "Error", "new Error().message": "", "SyntaxError(5).message": "5", "RangeError(null).message": "null", "ReferenceError(undefined).message": "", "typeof Error(1).message": "string",
		"b.byteLength": "8", "new ArrayBuffer(0).byteLength": "0", "t.length": "2", "t.byteLength": "4", "t.byteOffset": "2", "t.buffer === b": "true", "t[0]": "0", "t[1]": "0", "t[2]": "undefined", "t['1']": "0", "t[4294967294]": "undefined", "v.byteLength": "4", "v.byteOffset": "3", "v.buffer === b": "true", "typeof v.getInt8": "function", "typeof v['setBigUint64']": "function", "new BigInt64Array(3).byteLength": "24", "new Int8Array(1).buffer.byteLength": "1", "new Int32Array(2).buffer.byteLength": "8", "new Int8Array(3).byteOffset": "0",
		"Object.keys === Object['keys']": "true", "typeof $262.agent.start": "function", "typeof $262['agent']['sleep']": "function", "Atomics.and === Atomics.or": "false",
	})
	checkAll(t, "exited",
		"[].x", "[][-1]", "[]['01']", "[]['1.5']", "[][4294967295]", "[]['']", "[].Push", "[].toString", "[].__proto__", "[].byteLength", "[].keys", "[].prototype", "[1].join", "(() => 1).prototype", "(() => 1).name", "(function () { }).name", "(function () { }).length", "(function () { }).call", "(function () { })[0]", "(() => 1).x", "new Error().stack", "new Error().x", "new Error().toString", "new Error()[0]", "new Error().length", "new Error().cause",
		"Object.x", "Object.prototype", "Object.name", "Object.length", "Object[0]", "Object.Object", "Object.assign", "Array.push", "Array.pop", "Array.of", "Array.length", "Array[0]", "DataView.getInt8", "Atomics.x", "Atomics.keys", "Atomics.Atomics", "$262.x", "$262.start", "$262['agent.start']", "$262.agent.x", "$262.agent.agent", "$262.agent.agent.start", "$262.agent.start.x", "Object.keys.name", "Object.keys.keys", "Number.MAX_SAFE_INTEGER", "Int8Array.BYTES_PER_ELEMENT", "Error.name", "Error.message", "[].push.name", "[].push.push", "Object.isArray", "Array.keys", "Object['']", "Object['Object.keys']", "Object['.keys']", "Atomics.length", "Object['é']", "Int8Array.length",
		"new ArrayBuffer(1).x", "new ArrayBuffer(1).length", "new ArrayBuffer(1)[0]", "new ArrayBuffer(1).slice", "new ArrayBuffer(1).byteOffset", "new Int8Array(1).x", "new Int8Array(1)[-1]", "new Int8Array(1)['01']", "new Int8Array(1)['-0']", "new Int8Array(1)['1.5']", "new Int8Array(1)[4294967295]", "new Int8Array(1).push", "new Int8Array(1).getInt8", "new Int8Array(1).set", "new DataView(new ArrayBuffer(1)).x", "new DataView(new ArrayBuffer(1)).length", "new DataView(new ArrayBuffer(1))[0]", "new DataView(new ArrayBuffer(1)).getFloat32", "new DataView(new ArrayBuffer(1)).getint8", "new DataView(new ArrayBuffer(1)).get", "new DataView(new ArrayBuffer(1)).getInt64", "new DataView(new ArrayBuffer(1)).push", "new DataView(new ArrayBuffer(1)).getUint8Clamped")
	checkAsked(t, "let s = new SharedArrayBuffer(24), t = new Int16Array(s, 2), v = new DataView(s, 4); ", []asked{
		{"throw '' + s.byteLength + ' ' + t.length + ' ' + t.byteLength + ' ' + t.byteOffset + (t.buffer === s) + v.byteLength + v.byteOffset + (v.buffer === s)", some()[:1], "thrown 24 11 22 2true204true"}, {"s.length", some()[:1], "exited"}, {"s.grow", some()[:1], "exited"}, {"s[0]", some()[:1], "exited"}, {"throw t[11]", some()[:1], "thrown undefined"}, {"t['x']", some()[:1], "exited"},
	})
}

func TestP12_1_Set(t *testing.T) {
	checkEnds(t, map[string]string{
		"let o = {}; o.a = 1; o['b c'] = 2; o[3] = 4; throw '' + o.a + o['b c'] + o['3']": "thrown 124", "let o = {a: 1}; o.a = undefined; throw 'a' in o": "thrown true", "let p = {a: 1}, o = Object.create(p); o.a = 2; throw '' + p.a + o.a": "thrown 12", "let o = Object.create(null); o.toString = 5; throw o.toString": "thrown 5", "let o = {}; o[null] = 1; o[undefined] = 2; o[true] = 3; o[4n] = 4; throw Object.keys(o).length + o.null + o[undefined] + o.true + o[4]": "thrown 14", "({}).__proto__ = 1": "exited", "Object.create(null).__proto__ = 1": "exited", "({})['__proto__'] = nobody": "thrown ReferenceError", "({}).a = 1": "done", "let o = {}; o.b = 1; o[2] = 1; o.a = 1; o[1] = 1; let k = Object.keys(o); throw k[0] + k[1] + k[2] + k[3]": "thrown 12ba",
		"let l = [1]; l[0] = 5; l[1] = 6; l['2'] = 7; throw '' + l.length + l[0] + l[1] + l[2]": "thrown 3567", "let l = []; l[0] = l; throw l[0] === l": "thrown true", "[1][2] = 3": "exited", "[1][1] = 3": "done", "[][0] = 3": "done", "[][1] = 3": "exited", "[].x = 1": "exited", "[1].x = 1": "exited", "[1].length = 0": "exited", "[1]['00'] = 1": "exited", "[1][-1] = 1": "exited", "[].length = 0": "exited", "[].push = 1": "exited", "[][-1] = 1": "exited", "[]['00'] = 1": "exited", "[][4294967295] = 1": "exited", "[1, 2][4294967294] = 1": "exited", "let l = [1, 2]; l.pop(); l[1] = 5; l.push(6); throw '' + l.length + l[1] + l[2]": "thrown 356", "let l = [1, 2]; l.pop(); l[2] = 5": "exited",
		"let f = function () { }; f.prototype = 5; throw f.prototype": "thrown 5", "let f = function () { }, o = {}; f.prototype = o; throw f.prototype === o": "thrown true", "function f() { } f.prototype = undefined; throw f.prototype": "thrown undefined", "(function () { }).x = 5": "exited", "(function () { }).name = 5": "exited", "(function () { })[0] = 5": "exited", "(() => 1).prototype = 5": "exited", "(() => 1).x = 5": "exited",
		"new Error().name = 1": "exited", "new Error().message = 1": "exited", "new Error().x = 1": "exited", "Object.x = 1": "exited", "Object.keys = 1": "exited", "Atomics.x = 1": "exited", "$262.agent = 1": "exited", "$262.agent.start = 1": "exited", "Array.isArray[0] = 1": "exited", "new ArrayBuffer(1).x = 1": "exited", "new ArrayBuffer(1).byteLength = 1": "exited", "new ArrayBuffer(1)[0] = 1": "exited", "new DataView(new ArrayBuffer(1)).x = 1": "exited", "new DataView(new ArrayBuffer(1))[0] = 1": "exited",
		"'a'.x = 1": "thrown TypeError", "'a'[0] = 1": "thrown TypeError", "'a'.length = 1": "thrown TypeError", "(1).x = 2": "thrown TypeError", "true.x = 2": "thrown TypeError", "1n.x = 2": "thrown TypeError", "NaN.x = 2": "thrown TypeError", "null.x = 1": "thrown TypeError", "undefined.x = 1": "thrown TypeError", "(1)[{}] = 2": "exited", "'a'[[]] = 2": "exited", "null[{}] = 2": "thrown TypeError", "({})[() => 1] = 2": "exited", "[][{}] = 2": "exited",
	})
}

func TestP12_1_SetElements(t *testing.T) {
	checkEnds(t, map[string]string{
		"let a = new Int8Array(2); a[0] = 300; a[1] = NaN; throw '' + a[0] + a[1]": "thrown 440", "let a = new Uint8Array(3); a[0] = -1; a['1'] = '7'; a[2] = true; throw '' + a[0] + a[1] + a[2]": "thrown 25571", "let a = new Uint16Array(1); a[0] = 65537; throw a[0]": "thrown 1", "let a = new Int16Array(1); a[0] = 32768; throw a[0]": "thrown -32768", "let a = new Int32Array(1); a[0] = 4294967295; throw a[0]": "thrown -1", "let a = new Uint32Array(1); a[0] = -1; throw a[0]": "thrown 4294967295", "let a = new BigInt64Array(1); a[0] = 18446744073709551615n; throw a[0]": "thrown -1", "let a = new BigUint64Array(1); a[0] = -1n; throw a[0]": "thrown 18446744073709551615", "let a = new BigInt64Array(1); a[0] = '12'; throw a[0]": "thrown 12", "let a = new BigInt64Array(1); a[0] = true; throw typeof a[0] + a[0]": "thrown bigint1", "let a = new Int8Array(1); a[0] = null; throw a[0]": "thrown 0", "let a = new Int8Array(1); a[0] = Infinity; throw a[0]": "thrown 0", "let a = new Int8Array(1); a[0] = -0; throw 1 / a[0]": "thrown Infinity", "let a = new Int8Array(1); a[0] = undefined; throw a[0]": "thrown 0",
		"let a = new Uint8Array(4), b = new Uint16Array(a.buffer); b[1] = 258; throw '' + a[0] + a[1] + a[2] + a[3]": "thrown 0021", "let a = new Uint8Array(4), b = new Uint8Array(a.buffer, 1, 2); b[0] = 5; b[1] = 6; b[2] = 7; throw '' + a[0] + a[1] + a[2] + a[3]": "thrown 0560", "let a = new Uint16Array(2), b = new Int8Array(a.buffer); b[2] = -1; b[3] = 1; throw '' + a[0] + ' ' + a[1]": "thrown 0 511", "let a = new BigUint64Array(2), b = new Uint8Array(a.buffer, 8); b[7] = 1; throw a[1]": "thrown 72057594037927936", "let a = new Int8Array(1), b = new Int8Array(1); a[0] = 1; throw b[0]": "thrown 0",
		"new Int8Array(1)[0] = 1n": "thrown TypeError", "new Int8Array(1)[5] = 1n": "thrown TypeError", "new Int8Array(1)[5] = 1": "done", "new Int8Array(0)[0] = 1": "done", "new Int8Array(1)[4294967294] = 1": "done", "new Int8Array(1)[5] = {}": "exited", "new Int8Array(1)[5] = '1.5'": "exited", "new BigInt64Array(1)[0] = 1": "thrown TypeError", "new BigInt64Array(1)[5] = 1": "thrown TypeError", "new BigInt64Array(1)[0] = 'x'": "thrown SyntaxError", "new BigInt64Array(1)[5] = undefined": "thrown TypeError", "new BigInt64Array(1)[0] = {}": "exited", "new Int8Array(1).x = 1n": "exited", "new Int8Array(1)[-1] = 1": "exited", "new Int8Array(1)['00'] = 1": "exited", "new Int8Array(1).length = 1": "exited", "new Int8Array(1)[4294967295] = 1": "exited", "let a = new Int8Array(1); a[0] = 5; try { a[0] = 1n } catch { } throw a[0]": "thrown 5", "let a = new Int8Array(1); a[1] = 5; throw a[1]": "thrown undefined",
	})
}
