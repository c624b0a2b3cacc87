package eval_test

import (
	"strings"
	"testing"
)

func TestP12_1_ObjectAndArray(t *testing.T) {
	checkValues(t, "let join = l => { let s = ''; for (let i = 0; i < l.length; i++) s += typeof l[i] + l[i] + ' '; return s }, o = {b: 1, 2: 0, a: 3, 1: 0, '01': 5}, p = Object.create(o); p.c = 1", map[string]string{
		"join(Object.keys(o))": "string1 string2 stringb stringa string01 ", "join(Object.keys(p))": "stringc ", "join(Object.keys({}))": "", "join(Object.keys(Object.create(null)))": "", "join(Object.keys([7, 8]))": "string0 string1 ", "join(Object.keys([]))": "", "join(Object.keys(new (function () { this.x = 1 })))": "stringx ", "Array.isArray(Object.keys({}))": "true", "Object.keys(o) === Object.keys(o)": "false", "Object.keys({}).push(5)": "1",
		"Object.keys([0, 0, 0, 0, 0, 0, 0, 0, 0, 0, 0])[10]": "10", "Object.create(o).a": "3", "Object.create(o).x": "undefined", "Object.create(null).x": "undefined", "Object.create(o, undefined).a": "3", "Object.create(o, undefined, 5).a": "3", "Object.create(Object.create({q: 4})).q": "4", "Object.keys(Object.create(o)).length": "0", "Object.create(o) === Object.create(o)": "false",
		"Array.isArray([])": "true", "Array.isArray({})": "false", "Array.isArray()": "false", "Array.isArray('a')": "false", "Array.isArray(new Int8Array(1))": "false", "Array.isArray({length: 1})": "false", "Array.isArray(1, [])": "false", "Array.isArray([], 1)": "true", "Array.isArray(Array)": "false", "(0 || Array.isArray)([])": "true", "({f: Object.keys, a: 1}).f({z: 1})[0]": "z",
		"[1].push(2, 3)": "3", "[].push()": "0", "[1].push()": "1", "[].push(undefined)": "1", "[1, 2].pop()": "2", "[].pop()": "undefined", "[undefined].pop()": "undefined", "[1].pop(5)": "1",
	})
	checkEnds(t, map[string]string{
		"let l = [1]; l.push(2, 3); l.push(4); throw '' + l[0] + l[1] + l[2] + l[3] + l.length + l[4]": "thrown 12344undefined", "let l = [1, 2, 3]; let a = l.pop() + l.pop(); l.push(9); throw '' + a + l.length + l[1] + l[2]": "thrown 529undefined", "let l = []; l.pop(); l.pop(); l.push(5); throw '' + l.length + l[0]": "thrown 15", "let l = []; l.push(l, l); throw l[0] === l[1]": "thrown true", "let l = [], i = 0; while (i < 300) l.push(i++); while (i-- > 100) l.pop(); throw '' + l.length + ' ' + l[99] + l[100]": "thrown 100 99undefined", "let l = [1]; let k = Object.keys(l); l.push(2); throw k.length": "thrown 1", "let l = []; l.f = 1": "exited",
		"Object()": "exited", "Object({})": "exited", "Array()": "exited", "Array(3)": "exited", "Object.keys(null)": "thrown TypeError", "Object.keys()": "thrown TypeError", "Object.keys(1)": "exited", "Object.keys('ab')": "exited", "Object.keys(true)": "exited", "Object.keys(1n)": "exited", "Object.keys(() => 1)": "exited", "Object.keys(new Error)": "exited", "Object.keys(new Int8Array(1))": "exited", "Object.keys(Object)": "exited", "Object.keys(new ArrayBuffer(1))": "exited", "Object.keys(new DataView(new ArrayBuffer(1)))": "exited",
		"Object.create()": "thrown TypeError", "Object.create(1)": "thrown TypeError", "Object.create('a')": "thrown TypeError", "Object.create(undefined)": "thrown TypeError", "Object.create(1, 1)": "thrown TypeError", "Object.create([])": "exited", "Object.create(() => 1)": "exited", "Object.create(Object)": "exited", "Object.create(new Error)": "exited", "Object.create([], undefined)": "exited", "Object.create(null, 1)": "exited", "Object.create({}, null)": "exited", "Object.create({}, {})": "exited", "Object.create(null, undefined)": "done",
		"let p = [].push; p(1)": "exited", "let o = {f: [].push}; o.f(1)": "exited", "let o = {f: [].pop, length: 0}; o.f()": "exited", "let p = [].pop; p()": "exited", "(0 || [].push)(1)": "exited", "let l = [[].push]; throw l[0](5)": "thrown 2", "let l = [1, [].pop]; throw l[1]() === [].pop": "thrown true", "let o = Object.create({push: [].push}); o.push(1)": "exited", "[].push(nobody)": "thrown ReferenceError", "let t = {p: [].push}; t.p(nobody)": "thrown ReferenceError",
	})
}

func TestP12_1_Conversions(t *testing.T) {
	checkValues(t, "", map[string]string{
		"Number()": "0", "Number('12')": "12", "Number(' 12 ')": "12", "Number('')": "0", "Number('x')": "NaN", "Number(7n)": "7", "Number(-7n)": "-7", "Number(0n)": "0", "Number(9007199254740991n)": "9007199254740991", "Number(-9007199254740991n)": "-9007199254740991", "Number(undefined)": "NaN", "Number(null)": "0", "Number(true)": "1", "1 / Number(-0)": "-Infinity", "1 / Number('-0')": "-Infinity", "Number(3, 4)": "3", "typeof Number(7n)": "number",
		"String()": "", "String(-5)": "-5", "String(5n)": "5", "String(null)": "null", "String(undefined)": "undefined", "String('a')": "a", "String(-0)": "0", "String(NaN)": "NaN", "typeof String(1)": "string", "typeof String()": "string", "String(1, 2)": "1", "String(true)": "true",
		"Boolean()": "false", "Boolean('')": "false", "Boolean('a')": "true", "Boolean({})": "true", "Boolean(0n)": "false", "Boolean(NaN)": "false", "Boolean(Object)": "true", "typeof Boolean(1)": "boolean", "Boolean(0, 1)": "false",
		"BigInt(5)": "5", "BigInt(-5)": "-5", "typeof BigInt(5)": "bigint", "BigInt(-0)": "0", "BigInt(9007199254740991)": "9007199254740991", "BigInt('0012')": "12", "BigInt('-3')": "-3", "BigInt('')": "0", "BigInt(true)": "1", "BigInt(false)": "0", "BigInt(7n)": "7", "BigInt(' 5 ')": "5", "BigInt(3, 4)": "3",
		"Error(5).message": "5", "Error().message": "", "Error(undefined).message": "", "Error(null).message": "null", "Error(1n).message": "1", "Error('a', 'b').message": "a", "TypeError().name": "TypeError", "new TypeError('x').message": "x", "Error('a') === Error('a')": "false", "typeof Error()": "object", "new Error(-0).message": "0", "new Error('').message": "",
	})
	for _, name := range strings.Fields("Error TypeError RangeError ReferenceError SyntaxError") {
		checkValues(t, "", map[string]string{name + "(1).name + " + name + "(1).message": name + "1", "new " + name + "(2).name + new " + name + "(2).message": name + "2", name + "()": name, "new " + name: name})
		checkAll(t, "exited", name+"({})", "new "+name+"([])", name+"(Object)")
	}
	checkEnds(t, map[string]string{
		"Number({})": "exited", "Number([])": "exited", "Number('1.5')": "exited", "Number('0x10')": "exited", "Number(9007199254740992n)": "exited", "Number(-9007199254740992n)": "exited", "Number(18446744073709551617n)": "exited", "Number(Object)": "exited", "String({})": "exited", "String([])": "exited", "String(() => 1)": "exited", "String(Error())": "exited", "Boolean(nobody)": "thrown ReferenceError",
		"BigInt()": "thrown TypeError", "BigInt(undefined)": "thrown TypeError", "BigInt(null)": "thrown TypeError", "BigInt(NaN)": "thrown RangeError", "BigInt(Infinity)": "thrown RangeError", "BigInt(-Infinity)": "thrown RangeError", "BigInt('x')": "thrown SyntaxError", "BigInt('1n')": "thrown SyntaxError", "BigInt('1e5')": "exited", "BigInt('0x1')": "exited", "BigInt({})": "exited", "BigInt([])": "exited", "BigInt('115792089237316195423570985008687907853269984665640564039457584007913129639936')": "exited",
		"let o = {N: Number, x: 1}; throw o.N('5')": "thrown 5", "let f = String; throw f(5) + 1": "thrown 51", "throw [Boolean][0]('')": "thrown false", "throw (x => x(4))(BigInt)": "thrown 4",
	})
}

func TestP12_1_Buffers(t *testing.T) {
	checkValues(t, "let b = new ArrayBuffer(8), c = new ArrayBuffer(7), z = new ArrayBuffer(0)", map[string]string{
		"new ArrayBuffer(4096).byteLength": "4096", "new ArrayBuffer().byteLength": "0", "new ArrayBuffer('3').byteLength": "3", "new ArrayBuffer(null).byteLength": "0", "new ArrayBuffer(NaN).byteLength": "0", "new ArrayBuffer(-0).byteLength": "0", "new ArrayBuffer(true).byteLength": "1", "new ArrayBuffer(5, {}).byteLength": "5", "b === new ArrayBuffer(8)": "false",
		"new Int16Array(4).length": "4", "new Int16Array(4).byteLength": "8", "new Int16Array().length": "0", "new Int16Array('x').length": "0", "new Int16Array('3').length": "3", "new Int16Array(null).length": "0", "new Int16Array(true).length": "1", "new Int16Array(undefined).length": "0", "new Int16Array(2, 1, 1).length": "2", "new Int8Array(4096).length": "4096", "new Int16Array(2048).length": "2048", "new Int32Array(1024).length": "1024", "new BigInt64Array(512).length": "512", "new Int16Array(2)[1]": "0", "new BigInt64Array(1)[0]": "0", "typeof new BigInt64Array(1)[0]": "bigint", "typeof new Uint32Array(1)[0]": "number", "new Int16Array(2).buffer === new Int16Array(2).buffer": "false",
		"new Int16Array(b).length": "4", "new Int16Array(b, 2).length": "3", "new Int16Array(b, 2).byteOffset": "2", "new Int16Array(b, 2, 1).length": "1", "new Int16Array(b, '2', '1').length": "1", "new Int16Array(b, 8).length": "0", "new Int16Array(b, 8, 0).length": "0", "new Int16Array(b, 2, 3).length": "3", "new Int16Array(b, 2, 0).length": "0", "new Int16Array(b, undefined).length": "4", "new Int16Array(b, undefined, undefined).length": "4", "new Int16Array(b, undefined, 2).length": "2", "new Int16Array(b, null, null).length": "0", "new Int16Array(b, NaN, NaN).length": "0", "new Int16Array(c, 2, 2).length": "2", "new Int16Array(c, 0, 3).length": "3", "new Int8Array(c).length": "7", "new Int16Array(z).length": "0", "new BigInt64Array(b).length": "1", "new Int32Array(b, 4).length": "1", "new BigUint64Array(b, 0, 1).byteLength": "8", "new Int16Array(b).buffer === b": "true",
		"new DataView(b).byteLength": "8", "new DataView(b, 3).byteLength": "5", "new DataView(b, 3).byteOffset": "3", "new DataView(b, 3, 2).byteLength": "2", "new DataView(b, 8).byteLength": "0", "new DataView(b, 8, 0).byteLength": "0", "new DataView(b, 3, 5).byteLength": "5", "new DataView(b, undefined, 0).byteLength": "0", "new DataView(b, '1', '2').byteLength": "2", "new DataView(b, undefined, undefined).byteLength": "8", "new DataView(z).byteLength": "0", "new DataView(b, 1, null).byteLength": "0",
	})
	checkEnds(t, map[string]string{
		"new ArrayBuffer(-1)": "thrown RangeError", "new ArrayBuffer(4097)": "thrown RangeError", "new ArrayBuffer(9007199254740991)": "thrown RangeError", "new ArrayBuffer(Infinity)": "thrown RangeError", "new ArrayBuffer(1n)": "thrown TypeError", "new ArrayBuffer({})": "exited", "new ArrayBuffer('1.5')": "exited", "ArrayBuffer(1)": "thrown TypeError", "SharedArrayBuffer(1)": "thrown TypeError", "DataView(new ArrayBuffer(1))": "thrown TypeError", "Int8Array(1)": "thrown TypeError", "ArrayBuffer({})": "thrown TypeError", "Int8Array(nobody)": "thrown ReferenceError",
		"new Int8Array(-1)": "thrown RangeError", "new Int8Array(4097)": "thrown RangeError", "new Int16Array(2049)": "thrown RangeError", "new Int32Array(1025)": "thrown RangeError", "new BigInt64Array(513)": "thrown RangeError", "new BigInt64Array(9007199254740991)": "thrown RangeError", "new Int8Array(1n)": "thrown TypeError", "new Int8Array('1.5')": "exited", "new Int8Array([])": "exited", "new Int8Array({})": "exited", "new Int8Array(new Int8Array(1))": "exited", "new Int8Array(new DataView(new ArrayBuffer(1)))": "exited", "new Int8Array(Object)": "exited", "new Int8Array(() => 1)": "exited",
	})
	b := "let b = new ArrayBuffer(8), c = new ArrayBuffer(7); "
	for end, list := range map[string][]string{
		"thrown RangeError": {"new Int16Array(b, 1)", "new Int16Array(b, -1)", "new Int16Array(b, 10)", "new Int8Array(b, 9)", "new Int8Array(b, 9, 0)", "new Int16Array(b, 10, 0)", "new Int16Array(b, 2, 4)", "new Int16Array(b, 8, 1)", "new Int16Array(b, 0, -1)", "new Int16Array(b, 0, 9007199254740991)", "new BigInt64Array(b, 0, 9007199254740991)", "new Int16Array(c)", "new Int16Array(c, 2)", "new Int16Array(c, 2, 3)", "new Int16Array(c, 6, 1)", "new Int16Array(c, 8, 0)", "new Int32Array(b, 2)", "new Int32Array(b, 6)", "new BigInt64Array(b, 4)", "new Int16Array(b, 1, 1n)", "new Int16Array(b, 1, {})", "new Int16Array(b, Infinity)", "new Int16Array(b, 9007199254740990)",
			"new DataView(b, 9)", "new DataView(b, -1)", "new DataView(b, 3, 6)", "new DataView(b, 8, 1)", "new DataView(b, 0, -1)", "new DataView(b, 9, 1n)", "new DataView(b, 9, {})", "new DataView(b, 1, 9007199254740991)"},
		"thrown TypeError": {"new Int16Array(b, 1n)", "new Int16Array(b, 2, 1n)", "new Int16Array(b, 10, 1n)", "new Int16Array(c, 2, 1n)", "new DataView(b, 1n)", "new DataView(b, 1, 1n)", "new DataView", "new DataView({})", "new DataView(1)", "new DataView(null)", "new DataView([], {})", "new DataView(new Int8Array(1))", "new DataView(new DataView(b))", "new DataView(ArrayBuffer)"},
		"exited":           {"new Int16Array(b, {})", "new Int16Array(b, 2, {})", "new Int16Array(b, 10, [])", "new Int16Array(b, '1.5')", "new DataView(b, {})", "new DataView(b, 1, {})"},
	} {
		for _, source := range list {
			checkAll(t, end, b+source)
		}
	}
}

func TestP12_1_Views(t *testing.T) {
	checkEnds(t, map[string]string{
		"let a = new Uint8Array(4), d = new DataView(a.buffer); d.setInt16(0, 258); d.setInt16(2, 258, true); throw '' + a[0] + a[1] + a[2] + a[3]": "thrown 1221", "let d = new DataView(new ArrayBuffer(8)); d.setBigInt64(0, -2n); throw d.getBigUint64(0)": "thrown 18446744073709551614", "let d = new DataView(new ArrayBuffer(8)); d.setBigUint64(0, 1n, true); throw '' + d.getBigUint64(0) + ' ' + d.getBigInt64(0, 1)": "thrown 72057594037927936 1", "let d = new DataView(new ArrayBuffer(4)); d.setUint32(0, 4294967295); throw d.getInt32(0, true)": "thrown -1", "let d = new DataView(new ArrayBuffer(4)); d.setUint32(0, 16909060); throw '' + d.getUint8(0) + d.getUint8(1) + d.getUint8(2) + d.getUint8(3) + ' ' + d.getUint32(0, true)": "thrown 1234 67305985", "let d = new DataView(new ArrayBuffer(4)); d.setInt8(1, 200); throw '' + d.getInt8(1) + d.getUint8(1) + d.getInt8(0)": "thrown -562000", "let d = new DataView(new ArrayBuffer(4)); d.setUint16(1, 65281); throw '' + d.getUint8(1) + ' ' + d.getUint8(2) + ' ' + d.getInt16(1) + ' ' + d.getUint16(1, true)": "thrown 255 1 -255 511", "let d = new DataView(new ArrayBuffer(4)); throw d.setInt8(0, 5)": "thrown undefined", "let d = new DataView(new ArrayBuffer(4)); throw typeof d.getBigInt64": "thrown function", "let d = new DataView(new ArrayBuffer(8)); throw typeof d.getBigInt64(0) + typeof d.getInt32(0)": "thrown bigintnumber",
		"let a = new Uint8Array(8), d = new DataView(a.buffer, 3, 4); d.setUint8(0, 7); d.setUint8(3, 8); throw '' + a[2] + a[3] + a[6] + a[7]": "thrown 0780", "let a = new Uint8Array(8), d = new DataView(a.buffer, 3, 4); a[3] = 5; throw '' + d.getUint8(0) + d.getUint8('0') + d.getUint8() + d.getUint8(null) + d.getUint8(NaN)": "thrown 55555", "let d = new DataView(new ArrayBuffer(2)); d.setUint16(0, 1, 'x'); throw d.getUint8(0)": "thrown 1", "let d = new DataView(new ArrayBuffer(2)); d.setUint16(0, 1, 0); throw d.getUint8(0)": "thrown 0", "let d = new DataView(new ArrayBuffer(2)); d.setUint16(0, 1, {}); throw d.getUint16(0, [])": "thrown 1", "let d = new DataView(new ArrayBuffer(2)); d.setInt16(0); throw d.getInt16(0)": "thrown 0", "let d = new DataView(new ArrayBuffer(2)); d.setInt16(0, '7'); throw d.getInt16(0)": "thrown 7", "let d = new DataView(new ArrayBuffer(2)); d.setInt16(0, Infinity); throw d.getInt16(0)": "thrown 0", "let d = new DataView(new ArrayBuffer(8)); d.setBigInt64(0, true); throw d.getBigInt64(0)": "thrown 1",
		"let d = new DataView(new ArrayBuffer(2)); let o = {f: d.getInt8}; o.f(0)": "thrown TypeError", "let f = new DataView(new ArrayBuffer(2)).getInt8; f(0)": "thrown TypeError", "let f = new DataView(new ArrayBuffer(2)).setInt8; f({})": "thrown TypeError", "let l = [new DataView(new ArrayBuffer(2)).getInt8]; l[0](0)": "thrown TypeError",
	})
	v := "let d = new DataView(new ArrayBuffer(8), 0, 7); "
	for end, list := range map[string][]string{
		"thrown RangeError":  {"d.getInt8(7)", "d.getInt8(-1)", "d.getInt16(6)", "d.getInt32(4)", "d.getBigInt64(0)", "d.getInt8(Infinity)", "d.getInt8(9007199254740991)", "d.getBigInt64(9007199254740991)", "d.setInt8(7, 1)", "d.setInt8(-1, 1n)", "d.setInt8(-1, {})", "d.setInt16(6, 1)", "d.setBigInt64(0, 1n)", "d.setBigInt64(9007199254740991, 1n)", "d.setInt8(7)"},
		"thrown TypeError":   {"d.getInt8(1n)", "d.setInt8(1n)", "d.setInt8(99, 1n)", "d.setInt8(0, 1n)", "d.setBigInt64(0, 1)", "d.setBigInt64(99, 1)", "d.setBigInt64(0)"},
		"thrown SyntaxError": {"d.setBigInt64(99, 'x')"},
		"exited":             {"d.getInt8({})", "d.getInt8('1.5')", "d.setInt8({}, 1)", "d.setInt8(99, {})", "d.setInt8(0, '1.5')", "d.setBigInt64(99, {})"},
		"done":               {"d.getInt8(6)", "d.getInt16(5)", "d.getInt32(3)", "d.setInt8(6, 1)", "d.setUint32(3, 1)", "d.getInt8()", "d.setInt8()"},
	} {
		for _, source := range list {
			checkAll(t, end, v+source)
		}
	}
}
