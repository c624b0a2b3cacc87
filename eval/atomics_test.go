package eval_test

import (
	"strings"
	"testing"

	"rendezvous/eval"
)

func TestP12_1_AtomicsOfBuffers(t *testing.T) {
	checkEnds(t, map[string]string{
		"let a = new Uint16Array(1); throw '' + Atomics.add(a, 0, 65535) + ' ' + Atomics.sub(a, 0, 1) + ' ' + Atomics.or(a, 0, 1) + ' ' + Atomics.xor(a, 0, 3) + ' ' + Atomics.and(a, 0, 6) + ' ' + Atomics.exchange(a, 0, 9) + ' ' + Atomics.load(a, 0)": "thrown 0 65535 65534 65535 65532 4 9",
		"let a = new Int8Array(2); throw '' + Atomics.add(a, 1, 127) + Atomics.add(a, 1, 1) + ' ' + Atomics.load(a, 1) + a[0]":                                                                                                                            "thrown 0127 -1280",
		"let a = new Int32Array(1); throw '' + Atomics.store(a, 0, -0) + Atomics.store(a, 0, '7') + Atomics.compareExchange(a, 0, 7, 8) + Atomics.compareExchange(a, 0, 7, 9) + a[0]":                                                                     "thrown 07788",
		"let a = new BigInt64Array(1); throw '' + Atomics.store(a, 0, 2n) + Atomics.add(a, 0, -3n) + ' ' + a[0] + ' ' + Atomics.compareExchange(a, 0, 18446744073709551615n, 5n) + a[0]":                                                                  "thrown 22 -1 -15",
		"let a = new BigUint64Array(1); throw '' + Atomics.sub(a, 0, 1n) + ' ' + Atomics.exchange(a, 0, true) + ' ' + Atomics.and(a, 0, '3') + Atomics.or(a, 0, 4n) + Atomics.xor(a, 0, 1n) + a[0]":                                                       "thrown 0 18446744073709551615 1154",
		"let a = new Int8Array(1); throw '' + Atomics.compareExchange(a, 0, 256, 511) + a[0] + Atomics.compareExchange(a, 0, 255, 3) + a[0]":                                                                                                              "thrown 0-1-13",
		"let a = new Int8Array(4); Atomics.store(a, '2', 5); Atomics.store(a, undefined, 6); Atomics.store(a, null, 7); throw '' + a[0] + a[1] + a[2] + a[3] + Atomics.load(a)":                                                                           "thrown 70507",
		"let a = new Int16Array(new ArrayBuffer(8), 2, 2), b = new Uint8Array(a.buffer); Atomics.store(a, 1, 513); throw '' + b[3] + b[4] + b[5] + b[6]":                                                                                                  "thrown 0120",
	})
	checkValues(t, "let a = new Int8Array(1), b = new BigInt64Array(1)", map[string]string{
		"Atomics.store(a, 0, Infinity)": "Infinity", "Atomics.store(a, 0, -Infinity) + a[0]": "-Infinity", "Atomics.store(a, 0, NaN)": "0", "1 / Atomics.store(a, 0, -0)": "Infinity", "Atomics.store(a, 0, 300)": "300", "Atomics.store(a, 0)": "0", "Atomics.store(a, 0, null)": "0", "typeof Atomics.store(a, 0, '7')": "number", "Atomics.store(b, 0, 18446744073709551616n)": "18446744073709551616", "typeof Atomics.store(b, 0, true)": "bigint", "Atomics.store(b, 0, '12')": "12", "typeof Atomics.load(b, 0)": "bigint", "typeof Atomics.add(a, 0, 1)": "number", "(0 || Atomics.load)(a, 0)": "0",
		"Atomics.isLockFree(1)": "true", "Atomics.isLockFree(2)": "true", "Atomics.isLockFree(4)": "true", "Atomics.isLockFree(8)": "true", "Atomics.isLockFree(3)": "false", "Atomics.isLockFree(0)": "false", "Atomics.isLockFree(-1)": "false", "Atomics.isLockFree(16)": "false", "Atomics.isLockFree(9)": "false", "Atomics.isLockFree('4')": "true", "Atomics.isLockFree(true)": "true", "Atomics.isLockFree()": "false", "Atomics.isLockFree(NaN)": "false", "Atomics.isLockFree(Infinity)": "false", "Atomics.isLockFree(-0)": "false",
		"Atomics.notify(new Int32Array(1), 0)": "0", "Atomics.notify(b, 0, 5)": "0", "Atomics.notify(new Int32Array(1), 0, '1')": "0", "Atomics.notify(new Int32Array(1))": "0",
	})
}

// Each call of Atomics that has an element checks what it is given in the same order.
func TestP12_1_AtomicsChecks(t *testing.T) {
	ahead := "let a = new Int32Array(2), b = new BigInt64Array(1), c = new Int16Array(1), f = new Uint32Array(1), g = new BigUint64Array(1); "
	for _, name := range strings.Fields("load store add and or sub xor exchange compareExchange notify wait") {
		call := "Atomics." + name
		checkAll(t, "thrown TypeError", call+"()", call+"([], 0, 0)", call+"({}, {}, {})", call+"(1, 0, 0)", call+"(null, -1, 0)", call+"(new ArrayBuffer(8), 0, 0)", call+"(new DataView(new ArrayBuffer(8)), 0, 0)", call+"(Int32Array, 0, 0)")
		if name == "wait" {
			checkAll(t, "thrown TypeError", ahead+call+"(a, 0, 0)", ahead+call+"(b, 0, 0n)", ahead+call+"(a, {}, {})", ahead+call+"(a, 9, 1n)")
			continue
		}
		checkAll(t, "thrown RangeError", ahead+call+"(a, 2, 0)", ahead+call+"(a, -1, 0)", ahead+call+"(b, 1, 0)", ahead+call+"(a, Infinity, {})", ahead+call+"(a, 9007199254740991)", ahead+call+"(new Int32Array(0), 0, 0)", ahead+call+"(a, 2, 1n)", ahead+call+"(b, 1, 'x')")
		checkAll(t, "thrown TypeError", ahead+call+"(a, 1n, {})")
		checkAll(t, "exited", ahead+call+"(a, {}, 1n)", ahead+call+"(a, '1.5', 0)", ahead+call+"(a, [], 0)")
	}
	for _, name := range strings.Fields("store add and or sub xor exchange compareExchange") {
		call := ahead + "Atomics." + name
		checkAll(t, "thrown TypeError", call+"(a, 0, 1n)", call+"(b, 0, 1)", call+"(b, 0)", call+"(g, 0, null)")
		checkAll(t, "thrown SyntaxError", call+"(b, 0, 'x')")
		checkAll(t, "exited", call+"(a, 0, {})", call+"(a, 0, '1.5')", call+"(b, 0, [])", call+"(b, 0, '0x1')")
		checkAll(t, "done", call+"(a, 1, 1, 1)", call+"(b, 0, 1n, 1n)", call+"(c, 0, 1, 1)", call+"(f, 0, '5', '5')", call+"(g, 0, true, false)")
	}
	checkAll(t, "thrown TypeError", ahead+"Atomics.compareExchange(a, 0, 1, 1n)", ahead+"Atomics.compareExchange(b, 0, 1n, 1)", ahead+"Atomics.compareExchange(b, 0, 1n)", ahead+"Atomics.compareExchange(a, 0, 1n, {})", ahead+"Atomics.notify(c, 0)", ahead+"Atomics.notify(f, 0)", ahead+"Atomics.notify(g, 0)", ahead+"Atomics.notify(c, {})", ahead+"Atomics.notify(a, 0, 1n)", ahead+"Atomics.isLockFree(1n)")
	checkAll(t, "exited", ahead+"Atomics.compareExchange(a, 0, 1, {})", ahead+"Atomics.compareExchange(a, 0, {}, 1n)", ahead+"Atomics.notify(a, 0, {})", ahead+"Atomics.notify(a, 0, '1.5')", ahead+"Atomics.isLockFree({})")
	checkAll(t, "done", ahead+"Atomics.notify(a, 0, undefined)", ahead+"Atomics.notify(a, 1, -5)")
	checkEnds(t, map[string]string{"let a = new Int8Array(1); try { Atomics.add(a, 0, 1n) } catch { } throw a[0]": "thrown 0", "let a = new Int8Array(1); a[0] = 5; try { Atomics.compareExchange(a, 0, 5, 1n) } catch { } throw a[0]": "thrown 5"})
}

// sharedParts are arrays and views of a shared buffer, which is block 3.
const sharedParts = "let s = new SharedArrayBuffer(16), i = new Int32Array(s, 4), b = new BigInt64Array(s), c = new Uint8Array(s, 5, 3), d = new DataView(s, 1); "

// given are the answers for sharedParts, and more.
func given(more ...eval.Ans) []eval.Ans { return append([]eval.Ans{{Block: 3}}, more...) }

func TestP12_1_SharedElements(t *testing.T) {
	checkAsked(t, sharedParts, []asked{
		{"", nil, "Make len 16"}, {"", []eval.Ans{{Code: 1, Block: 3}}, "thrown RangeError"}, {"", []eval.Ans{{Code: -1}}, "thrown RangeError"}, {"", given(), "done"}, {"", []eval.Ans{{Block: 3, Len: 5, Word: 9, Text: ascii("a")}}, "done"}, {"throw s.byteLength", []eval.Ans{{Block: 3, Len: 5}}, "thrown 16"},
		{"i[1]", given(), "Load block 3 at 8 size 4 whole"}, {"i[0]", given(), "Load block 3 at 4 size 4 whole"}, {"throw i[1]", given(eval.Ans{Word: 1<<40 + 7}), "thrown 7"}, {"throw i[1]", given(eval.Ans{Word: 1<<32 - 1}), "thrown -1"}, {"throw i[3]", given(), "thrown undefined"}, {"c[2]", given(), "Load block 3 at 7 size 1 whole"}, {"throw c[2]", given(eval.Ans{Word: 511}), "thrown 255"}, {"b[1]", given(), "Load block 3 at 8 size 8"}, {"throw b[1]", given(eval.Ans{Word: 1<<64 - 1}), "thrown -1"}, {"throw i[0] + i[1]", given(eval.Ans{Word: 1}), "Load block 3 at 8 size 4 whole"}, {"throw i[0] + i[1]", given(eval.Ans{Word: 1}, eval.Ans{Word: 2, Code: 1, Block: 7}), "thrown 3"}, {"i[0]()", given(), "Load block 3 at 4 size 4 whole"}, {"i[0](nobody)", given(eval.Ans{}), "thrown ReferenceError"}, {"i[0](1)", given(eval.Ans{}), "thrown TypeError"},
		{"i[1] = -1", given(), "Store block 3 at 8 size 4 whole word 4294967295"}, {"throw i[1] = -1", given(eval.Ans{Word: 5}), "thrown -1"}, {"c[0] = 258", given(), "Store block 3 at 5 size 1 whole word 2"}, {"b[1] = 2n", given(), "Store block 3 at 8 size 8 word 2"}, {"b[0] = -1n", given(), "Store block 3 size 8 word 18446744073709551615"}, {"i[3] = 1; c[3] = 1; b[2] = 1n", given(), "done"}, {"i[3] = 1n", given(), "thrown TypeError"}, {"i[0] += 5", given(), "Load block 3 at 4 size 4 whole"}, {"i[0] += 5", given(eval.Ans{Word: 2}), "Store block 3 at 4 size 4 whole word 7"}, {"throw i[0]++", given(eval.Ans{Word: 2}, eval.Ans{}), "thrown 2"}, {"i[0]--", given(eval.Ans{}), "Store block 3 at 4 size 4 whole word 4294967295"}, {"i[nobody] = 1", given(), "thrown ReferenceError"}, {"i[0] = nobody", given(), "thrown ReferenceError"}, {"i[0] = i[1]", given(eval.Ans{Word: 6}), "Store block 3 at 4 size 4 whole word 6"},
		{"d.getInt16(0)", given(), "Load block 3 at 1 size 2"}, {"throw d.getInt16(1)", given(eval.Ans{Word: 1}), "thrown 256"}, {"throw d.getInt16(1, true)", given(eval.Ans{Word: 1}), "thrown 1"}, {"throw d.getUint16(1)", given(eval.Ans{Word: 0xA1FF02}), "thrown 767"}, {"throw d.getUint8(1)", given(eval.Ans{Word: 0x1FF}), "thrown 255"}, {"throw d.getBigUint64(0)", given(eval.Ans{Word: 1}), "thrown 72057594037927936"}, {"throw d.getInt32(0)", given(eval.Ans{Word: 0xFF}), "thrown -16777216"}, {"d.getBigInt64(7)", given(), "Load block 3 at 8 size 8"}, {"d.getBigInt64(8)", given(), "thrown RangeError"}, {"d.getInt8(14)", given(), "Load block 3 at 15 size 1"},
		{"d.setInt16(1, 1)", given(), "Store block 3 at 2 size 2 word 256"}, {"d.setInt16(1, 1, 1)", given(), "Store block 3 at 2 size 2 word 1"}, {"d.setInt8(0, -1)", given(), "Store block 3 at 1 size 1 word 255"}, {"d.setBigInt64(0, 1n)", given(), "Store block 3 at 1 size 8 word 72057594037927936"}, {"d.setUint32(3, 16909060)", given(), "Store block 3 at 4 size 4 word 67305985"}, {"throw d.setInt16(1, 1)", given(eval.Ans{Word: 4}), "thrown undefined"}, {"d.setInt32(12, 1)", given(), "thrown RangeError"},
	})
}

func TestP12_1_SharedAtomics(t *testing.T) {
	checkAsked(t, sharedParts, []asked{
		{"Atomics.load(i, 0)", given(), "Load block 3 at 4 size 4 seq whole"}, {"Atomics.load(b, 1)", given(), "Load block 3 at 8 size 8 seq whole"}, {"throw Atomics.load(i, 2)", given(eval.Ans{Word: 1<<33 - 1}), "thrown -1"}, {"throw Atomics.load(b, 0)", given(eval.Ans{Word: 5}), "thrown 5"}, {"Atomics.load(i, 3)", given(), "thrown RangeError"},
		{"Atomics.store(i, 0, '5')", given(), "Store block 3 at 4 size 4 seq whole word 5"}, {"Atomics.store(b, 0, -2n)", given(), "Store block 3 size 8 seq whole word 18446744073709551614"}, {"Atomics.store(c, 1, 257)", given(), "Store block 3 at 6 size 1 seq whole word 1"}, {"throw Atomics.store(c, 1, 257)", given(eval.Ans{Word: 9}), "thrown 257"}, {"throw Atomics.store(c, 1, -Infinity)", given(eval.Ans{Word: 9}), "thrown -Infinity"}, {"Atomics.store(c, 1, -Infinity)", given(), "Store block 3 at 6 size 1 seq whole"},
		{"Atomics.add(i, 1, -1)", given(), "Change block 3 at 8 size 4 op 1 seq whole word 4294967295"}, {"Atomics.and(i, 1, 5)", given(), "Change block 3 at 8 size 4 op 2 seq whole word 5"}, {"Atomics.or(i, 1, 5)", given(), "Change block 3 at 8 size 4 op 3 seq whole word 5"}, {"Atomics.sub(b, 1, 1n)", given(), "Change block 3 at 8 size 8 op 4 seq whole word 1"}, {"Atomics.xor(c, 0, 300)", given(), "Change block 3 at 5 size 1 op 5 seq whole word 44"}, {"Atomics.exchange(i, 0, 9)", given(), "Change block 3 at 4 size 4 op 6 seq whole word 9"}, {"throw Atomics.sub(b, 1, 1n)", given(eval.Ans{Word: 1<<64 - 1}), "thrown -1"}, {"throw Atomics.exchange(i, 0, 9)", given(eval.Ans{Word: 1<<32 + 4}), "thrown 4"}, {"throw Atomics.add(c, 0, 1)", given(eval.Ans{Word: 200}), "thrown 200"},
		{"Atomics.compareExchange(i, 0, -1, 9)", given(), "Swap block 3 at 4 size 4 seq whole word 9 want 4294967295"}, {"Atomics.compareExchange(c, 2, 257, 511)", given(), "Swap block 3 at 7 size 1 seq whole word 255 want 1"}, {"Atomics.compareExchange(b, 0, -1n, 0n)", given(), "Swap block 3 size 8 seq whole want 18446744073709551615"}, {"throw Atomics.compareExchange(i, 0, 1, 2)", given(eval.Ans{Word: 7}), "thrown 7"}, {"throw Atomics.compareExchange(b, 0, 1n, 2n)", given(eval.Ans{Word: 1 << 63}), "thrown -9223372036854775808"}, {"Atomics.compareExchange(i, 0, 1, 2n)", given(), "thrown TypeError"}, {"Atomics.isLockFree(4)", given(), "done"},
	})
}

func TestP12_1_Wait(t *testing.T) {
	checkAsked(t, sharedParts, []asked{
		{"Atomics.wait(i, 2, 7)", given(), "Wait block 3 at 12 size 4 want 7 n Infinity"}, {"Atomics.wait(b, 1, -7n)", given(), "Wait block 3 at 8 size 8 want 18446744073709551609 n Infinity"}, {"Atomics.wait(i, 0, -1, 5)", given(), "Wait block 3 at 4 size 4 want 4294967295 n 5"}, {"Atomics.wait(i)", given(), "Wait block 3 at 4 size 4 n Infinity"}, {"Atomics.wait(b, 0, true)", given(), "Wait block 3 size 8 want 1 n Infinity"},
		{"Atomics.wait(i, 0, 0, undefined)", given(), "Wait block 3 at 4 size 4 n Infinity"}, {"Atomics.wait(i, 0, 0, NaN)", given(), "Wait block 3 at 4 size 4 n Infinity"}, {"Atomics.wait(i, 0, 0, 'x')", given(), "Wait block 3 at 4 size 4 n Infinity"}, {"Atomics.wait(i, 0, 0, Infinity)", given(), "Wait block 3 at 4 size 4 n Infinity"}, {"Atomics.wait(i, 0, 1, -5)", given(), "Wait block 3 at 4 size 4 want 1"}, {"Atomics.wait(i, 0, 1, -Infinity)", given(), "Wait block 3 at 4 size 4 want 1"}, {"Atomics.wait(i, 0, 1, -0)", given(), "Wait block 3 at 4 size 4 want 1"}, {"Atomics.wait(i, 0, 1, 0)", given(), "Wait block 3 at 4 size 4 want 1"}, {"Atomics.wait(i, 0, 1, null)", given(), "Wait block 3 at 4 size 4 want 1"}, {"Atomics.wait(i, 0, 1, '25')", given(), "Wait block 3 at 4 size 4 want 1 n 25"}, {"Atomics.wait(i, 0, 1, 9007199254740991)", given(), "Wait block 3 at 4 size 4 want 1 n 9007199254740991"},
		{"throw Atomics.wait(i, 0, 0)", given(eval.Ans{}), "thrown ok"}, {"throw Atomics.wait(i, 0, 0)", given(eval.Ans{Code: 1}), "thrown not-equal"}, {"throw Atomics.wait(i, 0, 0)", given(eval.Ans{Code: 2}), "thrown timed-out"}, {"throw Atomics.wait(i, 0, 0)", given(eval.Ans{Code: 3}), "thrown timed-out"}, {"throw Atomics.wait(i, 0, 0)", given(eval.Ans{Code: -1}), "thrown timed-out"}, {"throw Atomics.wait(b, 0, 0n, 1)", given(eval.Ans{Word: 5}), "thrown ok"},
		{"Atomics.wait(c, 0, 0)", given(), "thrown TypeError"}, {"Atomics.wait(new Uint32Array(s), 0, 0)", given(), "thrown TypeError"}, {"Atomics.wait(new BigUint64Array(s), 0, 0n)", given(), "thrown TypeError"}, {"Atomics.wait(s, 0, 0)", given(), "thrown TypeError"}, {"Atomics.wait(d, 0, 0)", given(), "thrown TypeError"}, {"Atomics.wait(i, 3, 1n)", given(), "thrown RangeError"}, {"Atomics.wait(i, -1, 0)", given(), "thrown RangeError"}, {"Atomics.wait(i, 1n, 0)", given(), "thrown TypeError"}, {"Atomics.wait(i, {}, 1n)", given(), "exited"}, {"Atomics.wait(i, 0, 1n, {})", given(), "thrown TypeError"}, {"Atomics.wait(b, 0, 1, {})", given(), "thrown TypeError"}, {"Atomics.wait(b, 0, 'x')", given(), "thrown SyntaxError"}, {"Atomics.wait(i, 0, {}, 1n)", given(), "exited"}, {"Atomics.wait(i, 0, 0, 1n)", given(), "thrown TypeError"}, {"Atomics.wait(i, 0, 0, {})", given(), "exited"}, {"Atomics.wait(i, 0, 0, '1.5')", given(), "exited"},
	})
}

func TestP12_1_Notify(t *testing.T) {
	checkAsked(t, sharedParts, []asked{
		{"Atomics.notify(i, 0)", given(), "Notify block 3 at 4 n Infinity"}, {"Atomics.notify(b, 1)", given(), "Notify block 3 at 8 n Infinity"}, {"Atomics.notify(i, 2, 5)", given(), "Notify block 3 at 12 n 5"}, {"Atomics.notify(i, 0, -3)", given(), "Notify block 3 at 4"}, {"Atomics.notify(i, 0, -Infinity)", given(), "Notify block 3 at 4"}, {"Atomics.notify(i, 0, -0)", given(), "Notify block 3 at 4"}, {"Atomics.notify(i, 0, NaN)", given(), "Notify block 3 at 4"}, {"Atomics.notify(i, 0, null)", given(), "Notify block 3 at 4"}, {"Atomics.notify(i, 0, '2')", given(), "Notify block 3 at 4 n 2"}, {"Atomics.notify(i, 0, Infinity)", given(), "Notify block 3 at 4 n Infinity"}, {"Atomics.notify(i, undefined, true)", given(), "Notify block 3 at 4 n 1"},
		{"throw Atomics.notify(i, 0, 2)", given(eval.Ans{Word: 2}), "thrown 2"}, {"throw Atomics.notify(i, 0)", given(eval.Ans{Word: 1<<53 - 1}), "thrown 9007199254740991"}, {"throw Atomics.notify(i, 0)", given(eval.Ans{Word: 1 << 53}), "thrown 0"}, {"throw Atomics.notify(i, 0)", given(eval.Ans{Word: 1<<63 + 5}), "thrown 5"}, {"throw typeof Atomics.notify(b, 0)", given(eval.Ans{}), "thrown number"},
		{"Atomics.notify(c, 0)", given(), "thrown TypeError"}, {"Atomics.notify(i, 3)", given(), "thrown RangeError"}, {"Atomics.notify(i, 0, 1n)", given(), "thrown TypeError"}, {"Atomics.notify(i, 0, {})", given(), "exited"},
	})
}
