package eval_test

import "testing"

func TestP12_1_Literals(t *testing.T) {
	checkValues(t, "", map[string]string{
		"5": "5", "0": "0", "9007199254740991": "9007199254740991", "5n": "5", "0n": "0", "340282366920938463463374607431768211456n": "340282366920938463463374607431768211456", "'a'": "a", `"\u0041"`: "A", "''.length": "0", "true": "true", "false": "false", "null": "null", "(((7)))": "7",
		"[].length": "0", "[1, 2, 3].length": "3", "[1, 2][0]": "1", "[1, 2][1]": "2", "[[1], [2, 3]][1][1]": "3", "[undefined].length": "1", "[] === []": "false", "[0, 1, 2, 3, 4, 5, 6, 7, 8, 9, 10, 11][11]": "11",
		"({}).a": "undefined", "({a: 5}).a": "5", "({a: 1, b: 2}).b": "2", "({a: 1, a: 2}).a": "2", "({'a b': 1})['a b']": "1", "({1: 'x'})[1]": "x", "({'': 4})['']": "4", "({if: 6}).if": "6", "({a: {b: {c: 7}}}).a.b.c": "7", "(x => ({x}))(8).x": "8", "({}) === ({})": "false", "({constructor: 1}).constructor": "1", "({toString: 2}).toString": "2",
	})
	checkEnds(t, map[string]string{
		"[nobody]": "thrown ReferenceError", "[1, nobody, 1 / 2]": "thrown ReferenceError", "({a: nobody})": "thrown ReferenceError", "({a: 1, b: 1 / 2, c: nobody})": "exited", "({__proto__: 1})": "exited", "({'__proto__': null})": "exited", "({__proto__: nobody})": "thrown ReferenceError", "({__proto__})": "thrown ReferenceError", "({a: 1, __proto__: {}, b: nobody})": "exited", "let __proto__ = 1; ({__proto__})": "exited",
		"let s = ''; [s += 1, s += 2]; ({b: s += 3, a: s += 4}); throw s": "thrown 1234", "let l = [1], m = l; m[0] = 5; throw l[0]": "thrown 5", "let o = {}, p = o; p.a = 5; throw o.a": "thrown 5", "let f = () => ({}); throw f() === f()": "thrown false",
	})
}

func TestP12_1_Unary(t *testing.T) {
	checkValues(t, "let a = 1, o = {n: 1n}, f = () => 1", map[string]string{
		"typeof 1": "number", "typeof NaN": "number", "typeof 1n": "bigint", "typeof ''": "string", "typeof true": "boolean", "typeof false": "boolean", "typeof undefined": "undefined", "typeof null": "object", "typeof {}": "object", "typeof []": "object", "typeof f": "function", "typeof function () { }": "function", "typeof new Error": "object", "typeof new ArrayBuffer(1)": "object", "typeof new Int8Array(1)": "object", "typeof new DataView(new ArrayBuffer(1))": "object",
		"typeof nobody": "undefined", "typeof (nobody)": "undefined", "typeof a": "number", "typeof o.n": "bigint", "typeof o.x": "undefined", "typeof typeof nobody": "string", "typeof -a": "number", "typeof !a": "boolean", "typeof void 0": "undefined",
		"-a": "-1", "-'2'": "-2", "-o.n": "-1", "+'12'": "12", "+true": "1", "+undefined": "NaN", "~5": "-6", "~'x'": "-1", "!a": "false", "!''": "true", "!o": "false", "void o": "undefined", "- -3": "3", "1 / -0": "-Infinity", "1 / - -0": "Infinity",
	})
	checkEnds(t, map[string]string{
		"typeof nobody.x": "thrown ReferenceError", "typeof nobody()": "thrown ReferenceError", "typeof (1 + nobody)": "thrown ReferenceError", "typeof a; let a": "thrown ReferenceError", "{ typeof a; let a }": "thrown ReferenceError", "throw typeof a; { let a }": "thrown undefined", "typeof Math": "exited", "void nobody": "thrown ReferenceError", "!nobody": "thrown ReferenceError", "-{}": "exited", "+1n": "thrown TypeError", "+[]": "exited", "~1n": "exited", "-(() => 1)": "exited", "+'1.5'": "exited", "-Object": "exited",
	})
}

func TestP12_1_Binary(t *testing.T) {
	checkValues(t, "let o = {}, l = [], f = () => 1", map[string]string{
		"1 + 2 * 3": "7", "'a' + 1": "a1", "1 + 'a'": "1a", "'5' * '4'": "20", "7 % 4": "3", "6 / 3": "2", "5n - 7n": "-2", "5 & 3": "1", "5 | 3": "7", "5 ^ 3": "6", "1 << 33": "2", "-5 >> 1": "-3", "-1 >>> 0": "4294967295", "1 < 2": "true", "2 > 1": "true", "1 <= 0": "false", "1 >= 1": "true", "'x' < 'y'": "true", "1 == '1'": "true", "1 != '1'": "false", "1 === '1'": "false", "1 !== '1'": "true", "null == undefined": "true", "o == o": "true", "o == {}": "false", "l == o": "false", "f === f": "true", "Object === Array": "false", "Object == Object": "true", "Object.keys == Object.keys": "true", "o == null": "false", "'' + undefined + null": "undefinednull",
		"1n + 2n": "3", "1n < 2": "true", "2n == 2": "true", "2n === 2": "false", "NaN === NaN": "false", "0 === -0": "true",
	})
	checkEnds(t, map[string]string{
		"1 / 2": "exited", "9007199254740991 + 1": "exited", "1n + 1": "thrown TypeError", "1n / 0n": "thrown RangeError", "1n % 0n": "thrown RangeError", "1n << 1n": "exited", "1n >>> 1n": "thrown TypeError", "({}) + 1": "exited", "[] + ''": "exited", "Object + ''": "exited", "({}) < 1": "exited", "({}) == 1": "exited", "1n == '1'": "exited", "nobody + 1 / 2": "thrown ReferenceError", "1 / 2 + nobody": "exited", "1n + nobody": "thrown ReferenceError", "null.x + nobody": "thrown TypeError",
		"let s = ''; (s += 1) + (s += 2); throw s": "thrown 12",
	})
}

func TestP12_1_In(t *testing.T) {
	checkValues(t, "let p = {a: 1}, o = Object.create(p), n = Object.create(null), l = [5, 6], t = new Int8Array(2); o.b = undefined", map[string]string{
		"'a' in p": "true", "'b' in p": "false", "'a' in o": "true", "'b' in o": "true", "'c' in o": "false", "'a' in n": "false", "'toString' in n": "false", "'__proto__' in n": "false", "1 in {1: 0}": "true", "null in {null: 0}": "true", "1n in {1: 0}": "true", "undefined in p": "false", "-0 in l": "true",
		"0 in l": "true", "1 in l": "true", "2 in l": "false", "'1' in l": "true", "4294967294 in l": "false", "1n in l": "true", "0 in []": "false", "0 in t": "true", "1 in t": "true", "2 in t": "false", "'1' in t": "true",
		"'toString' in {toString: 1}": "true", "'valueOf' in Object.create({valueOf: 1})": "true",
	})
	checkEnds(t, map[string]string{
		"'x' in 5": "thrown TypeError", "'x' in 'x'": "thrown TypeError", "'x' in null": "thrown TypeError", "'x' in undefined": "thrown TypeError", "0 in 1n": "thrown TypeError", "({}) in 5": "thrown TypeError", "({}) in {}": "exited", "[] in []": "exited", "'toString' in {}": "exited", "'__proto__' in {}": "exited", "'constructor' in Object.create({})": "exited", "'hasOwnProperty' in {}": "exited", "'length' in []": "exited", "'x' in []": "exited", "-1 in []": "exited", "'01' in []": "exited", "4294967295 in []": "exited", "'push' in []": "exited", "'x' in new Int8Array(1)": "exited", "-1 in new Int8Array(1)": "exited", "0 in (() => 1)": "exited", "'prototype' in function () { }": "exited", "'keys' in Object": "exited", "'name' in new Error": "exited", "'byteLength' in new ArrayBuffer(1)": "exited", "'byteLength' in new DataView(new ArrayBuffer(1))": "exited", "nobody in 1": "thrown ReferenceError", "1 in nobody": "thrown ReferenceError", "1 / 2 in nobody": "exited",
	})
	checkAsked(t, "let s = new SharedArrayBuffer(4), t = new Int8Array(s); ", []asked{{"throw 3 in t", some()[:1], "thrown true"}, {"throw 4 in t", some()[:1], "thrown false"}, {"'byteLength' in s", some()[:1], "exited"}})
}

func TestP12_1_Logic(t *testing.T) {
	checkValues(t, "", map[string]string{
		"true && 5": "5", "0 && nobody": "0", "'' && nobody": "", "0n && nobody": "0", "NaN && nobody": "NaN", "null && nobody": "null", "undefined && nobody": "undefined", "[] && 5": "5", "0 || 'x'": "x", "5 || nobody": "5", "[] || nobody": "object", "'a' || nobody": "a", "'' || 0n": "0", "null ?? 7": "7", "undefined ?? 7": "7", "0 ?? nobody": "0", "'' ?? nobody": "", "false ?? nobody": "false", "NaN ?? nobody": "NaN", "null ?? undefined": "undefined", "1 && 2 && 3": "3", "0 || null || 3": "3", "1 && 0 || 5": "5", "(null ?? 0) || 6": "6",
		"1 ? 2 : 3": "2", "0 ? 2 : 3": "3", "'' ? nobody : 3": "3", "{} ? 2 : nobody": "2", "1 ? 0 ? 4 : 5 : 6": "5",
	})
	checkEnds(t, map[string]string{"nobody && 1": "thrown ReferenceError", "nobody || 1": "thrown ReferenceError", "nobody ?? 1": "thrown ReferenceError", "1 && nobody": "thrown ReferenceError", "0 || nobody": "thrown ReferenceError", "null ?? nobody": "thrown ReferenceError", "nobody ? 1 : 2": "thrown ReferenceError", "1 ? nobody : 2": "thrown ReferenceError", "0 ? 1 : nobody": "thrown ReferenceError", "0 ? nobody : 1": "done"})
}

func TestP12_1_Assign(t *testing.T) {
	checkEnds(t, map[string]string{
		"let a; throw a = 5": "thrown 5", "let a, b; a = b = 6; throw a + b": "thrown 12", "let a = 7; throw a += 1": "thrown 8", "let a = 7; a -= 2; a *= 3; throw a": "thrown 15", "let a = 7; a %= 4; a <<= 2; a |= 1; throw a": "thrown 13", "let a = 12; a /= 4; a ^= 1; a &= 6; throw a": "thrown 2", "let a = -8; a >>= 1; throw a": "thrown -4", "let a = -1; a >>>= 31; throw a": "thrown 1", "let a = 'x'; a += 1; throw a": "thrown x1", "let a = 5n; a += 1n; throw a": "thrown 6",
		"let o = {x: 1}; o.x = 2; throw o.x": "thrown 2", "let o = {x: 1}; throw o.x = 2": "thrown 2", "let o = {x: 1}; o.x += 5; throw o.x": "thrown 6", "let o = {}; o['y'] = 3; throw o.y": "thrown 3", "let o = {}; o.x += 1; throw o.x": "thrown NaN", "let o = {}; o.a = o.b = 4; throw o.a + o.b": "thrown 8", "let a = [1]; a[0] += 5; throw a[0]": "thrown 6", "let a = []; a[0] = 1; a[1] = 2; throw a.length": "thrown 2", "let t = new Int8Array(1); throw t[0] = 300": "thrown 300", "let t = new Int8Array(1); throw t[0] += 300": "thrown 300", "let t = new Int8Array(1); t[0] += 300; throw t[0]": "thrown 44", "let t = new Int8Array(1); throw t[0] = '7'": "thrown 7", "let t = new Int8Array(1); throw typeof (t[0] = '7')": "thrown string", "let p = Object.create({x: 1}); p.x += 1; throw p.x": "thrown 2", "let q = {x: 1}, p = Object.create(q); p.x += 1; throw q.x": "thrown 1",
		// The parts of the target come first, then its old value, then the other operand.
		"let s = '', o = {}; (() => { s += 1; return o })()[(() => { s += 2; return 'k' })()] = s += 3; throw s + o.k": "thrown 123123", "let a = 1; a += (a = 5); throw a": "thrown 6", "let o = {x: 1}; o.x += (o.x = 5); throw o.x": "thrown 6", "let k = 0, l = [5, 6]; l[k] = (k = 1); throw '' + l[0] + l[1]": "thrown 16", "let o = {x: 1}, p = o; o.x = (o = {x: 3}).x; throw '' + p.x + o.x": "thrown 33", "let a = 1; try { a += (() => { a = 7; throw 0 })() } catch { } throw a": "thrown 7",
		"null.x = nobody": "thrown ReferenceError", "null.x = 1": "thrown TypeError", "null.x += nobody": "thrown TypeError", "null[nobody] = 1": "thrown ReferenceError", "nobody.x = 1 / 2": "thrown ReferenceError", "nobody[1 / 2] = 1": "thrown ReferenceError", "undefined[{}] = nobody": "thrown ReferenceError", "undefined[{}] = 1": "thrown TypeError", "undefined[{}] += nobody": "thrown TypeError", "({})[{}] = nobody": "thrown ReferenceError", "({})[{}] = 1": "exited", "({})[{}] += nobody": "exited", "let a = 1n; a += 1": "thrown TypeError", "let a = 1n; a /= 0n": "thrown RangeError", "let a = 1; a /= 2": "exited", "let a = 3; try { a += 1n } catch { } throw a": "thrown 3", "nobody += 1 / 2": "thrown ReferenceError", "const a = 1; a += nobody": "thrown ReferenceError", "const a = 1; a += 1n": "thrown TypeError",
	})
}

func TestP12_1_Steps(t *testing.T) {
	checkEnds(t, map[string]string{
		"let a = 1; throw a++": "thrown 1", "let a = 1; throw ++a": "thrown 2", "let a = 1; throw a--": "thrown 1", "let a = 1; throw --a": "thrown 0", "let a = 1; a++; throw a": "thrown 2", "let a = 1; a--; throw a": "thrown 0", "let a = 1; ++a; throw a": "thrown 2", "let a = 1; --a; throw a": "thrown 0", "let x = '5'; throw typeof x++ + x": "thrown number6", "let x = '5'; throw typeof ++x + x": "thrown number6", "let x = 5n; throw x-- - x": "thrown 1", "let x = 5n; throw ++x": "thrown 6", "let x; throw x++": "thrown NaN", "let x; x++; throw x": "thrown NaN", "let x = true; throw x++ + x": "thrown 3", "let x = null; throw --x": "thrown -1", "let x = 'a'; throw x--": "thrown NaN", "let x = -1; throw 1 / ++x": "thrown Infinity", "let x = '-0'; throw 1 / x++": "thrown -Infinity",
		"let o = {x: 1}; throw o.x++ * 10 + o.x": "thrown 12", "let o = {x: 1}; throw ++o['x'] * 10 + o.x": "thrown 22", "let a = [1]; a[0]++; ++a[0]; throw a[0]": "thrown 3", "let a = [1], i = 0; a[i++]++; throw '' + a[0] + i": "thrown 21", "let t = new Int8Array(1); t[0]--; throw t[0]": "thrown -1", "let t = new Uint8Array(1); throw --t[0]": "thrown -1", "let t = new Uint8Array(1); --t[0]; throw t[0]": "thrown 255", "let t = new BigInt64Array(1); t[0]++; throw t[0]": "thrown 1", "let o = {}; o.x++; throw o.x": "thrown NaN", "let s = '', o = {x: 1}; (() => { s += 1; return o })().x++; throw s + o.x": "thrown 12", "let a = [1]; a[1]++; throw '' + a.length + a[1]": "thrown 2NaN",
		"let x = {}; x++": "exited", "let x = '1.5'; x++": "exited", "let x = 9007199254740991; x++": "exited", "let x = -9007199254740991; x--": "exited", "let x = 9007199254740991; x--; throw x": "thrown 9007199254740990", "null.x++": "thrown TypeError", "({}).toString++": "exited", "nobody++": "thrown ReferenceError", "a++; let a": "thrown ReferenceError", "const a = 1; a++": "thrown TypeError", "const a = {}; a++": "exited", "const a = '1.5'; --a": "exited", "'ab'.length++": "thrown TypeError", "[1].length++": "exited", "'ab'[0]++": "thrown TypeError", "(1).x++": "exited", "let x = 115792089237316195423570985008687907853269984665640564039457584007913129639935n; x++": "exited",
	})
}
