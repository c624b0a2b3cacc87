package eval_test

import (
	"testing"

	"rendezvous/api"
	"rendezvous/eval"
)

func TestP12_1_Shared(t *testing.T) {
	checkAsked(t, "", []asked{
		{"new SharedArrayBuffer(8)", nil, "Make len 8"}, {"new SharedArrayBuffer", nil, "Make"}, {"new SharedArrayBuffer('5', undefined)", nil, "Make len 5"}, {"new SharedArrayBuffer(9007199254740991)", nil, "Make len 9007199254740991"}, {"throw new SharedArrayBuffer(9007199254740991).byteLength", some(), "thrown 9007199254740991"}, {"new SharedArrayBuffer(-1)", nil, "thrown RangeError"}, {"new SharedArrayBuffer(Infinity)", nil, "thrown RangeError"}, {"new SharedArrayBuffer(1n)", nil, "thrown TypeError"}, {"new SharedArrayBuffer({})", nil, "exited"}, {"new SharedArrayBuffer(8, {})", nil, "exited"}, {"new SharedArrayBuffer(8, null)", nil, "exited"}, {"new SharedArrayBuffer(-1, {})", nil, "thrown RangeError"}, {"new SharedArrayBuffer({}, {})", nil, "exited"}, {"new SharedArrayBuffer(1n, {})", nil, "thrown TypeError"},
		{"let a = new SharedArrayBuffer(1), b = new SharedArrayBuffer(2)", []eval.Ans{{Block: 4}}, "Make len 2"}, {"let a = new SharedArrayBuffer(1), b = new SharedArrayBuffer(2); new Int8Array(a)[0] = 1", []eval.Ans{{Block: 4}, {Block: 5}}, "Store block 4 size 1 whole word 1"}, {"let a = new SharedArrayBuffer(1), b = new SharedArrayBuffer(2); new Int8Array(b)[1] = 1", []eval.Ans{{Block: 4}, {Block: 5}}, "Store block 5 at 1 size 1 whole word 1"}, {"let a = new SharedArrayBuffer(1), b = new SharedArrayBuffer(2); throw a === b", []eval.Ans{{Block: 4}, {Block: 4}}, "thrown false"}, {"let a = new Int8Array(new SharedArrayBuffer(1)); a[0] = 1", []eval.Ans{{Block: -7}}, "Store block -7 size 1 whole word 1"},
		{"throw new BigInt64Array(new SharedArrayBuffer(9007199254740984)).length", some(), "thrown 1125899906842623"}, {"new BigInt64Array(new SharedArrayBuffer(9007199254740984), 9007199254740976)[0]", some()[:1], "Load at 9007199254740976 size 8"}, {"new Int8Array(new SharedArrayBuffer(9007199254740991))[4294967294]", some()[:1], "Load at 4294967294 size 1 whole"}, {"Atomics.load(new Int8Array(new SharedArrayBuffer(9007199254740991)), 9007199254740990)", some()[:1], "Load at 9007199254740990 size 1 seq whole"}, {"new Int16Array(new SharedArrayBuffer(9007199254740991))", some(), "thrown RangeError"}, {"new BigInt64Array(new SharedArrayBuffer(9007199254740984), 0, 9007199254740991)", some(), "thrown RangeError"}, {"throw new DataView(new SharedArrayBuffer(9007199254740991), 5).byteLength", some(), "thrown 9007199254740986"},
		{"try { new SharedArrayBuffer(8) } catch (e) { throw e.message + e.name }", []eval.Ans{{Code: 1}}, "thrown RangeError"},
	})
}

func TestP12_1_Agents(t *testing.T) {
	long := make([]uint16, api.MaxText+1)
	for i := range long {
		long[i] = 'x'
	}
	checkAsked(t, "let agent = $262.agent; ", []asked{
		{"agent.start('x')", nil, "Start x"}, {"agent.start('')", nil, "Start"}, {"agent.start('let a; /')", nil, "Start let a; /"}, {"throw agent.start('x')", []eval.Ans{{Code: 1, Word: 5}}, "thrown undefined"}, {"agent.start(1)", nil, "exited"}, {"agent.start()", nil, "exited"}, {"agent.start({})", nil, "exited"}, {"agent.start(null)", nil, "exited"}, {"let s = 'a'; agent.start(s + 1, 5)", nil, "Start a1"},
		{"agent.report('x')", nil, "Report x"}, {"agent.report(5n)", nil, "Report 5"}, {"agent.report(-0)", nil, "Report 0"}, {"agent.report()", nil, "Report undefined"}, {"agent.report(null, 1)", nil, "Report null"}, {"agent.report('')", nil, "Report"}, {"throw agent.report(1)", some(), "thrown undefined"}, {"agent.report({})", nil, "exited"}, {"agent.report(() => 1)", nil, "exited"}, {"agent.report(1); agent.report(2); agent.report(3)", some()[:2], "Report 3"},
		{"agent.getReport()", nil, "GetReport"}, {"agent.getReport(5)", nil, "GetReport"}, {"throw agent.getReport()", []eval.Ans{{Code: 1, Text: ascii("a")}}, "thrown null"}, {"throw agent.getReport()", []eval.Ans{{Code: -1}}, "thrown null"}, {"throw typeof agent.getReport()", []eval.Ans{{Code: 1}}, "thrown object"}, {"throw agent.getReport()", []eval.Ans{{Text: ascii("a")}}, "thrown a"}, {"throw typeof agent.getReport()", []eval.Ans{{}}, "thrown string"}, {"throw agent.getReport().length", []eval.Ans{{Text: long}}, "thrown 4096"}, {"throw agent.getReport().length", []eval.Ans{{Text: long[:4096]}}, "thrown 4096"}, {"throw agent.getReport().length", []eval.Ans{{Text: long[:4095]}}, "thrown 4095"}, {"throw agent.getReport() === '\\ud800'", []eval.Ans{{Text: []uint16{0xD800}}}, "thrown true"},
		{"agent.sleep(5)", nil, "Sleep n 5"}, {"agent.sleep('5')", nil, "Sleep n 5"}, {"agent.sleep(-5)", nil, "Sleep"}, {"agent.sleep(-0)", nil, "Sleep"}, {"agent.sleep(NaN)", nil, "Sleep"}, {"agent.sleep()", nil, "Sleep"}, {"agent.sleep(-Infinity)", nil, "Sleep"}, {"agent.sleep(Infinity)", nil, "Sleep n Infinity"}, {"agent.sleep(true)", nil, "Sleep n 1"}, {"throw agent.sleep(5)", some(), "thrown undefined"}, {"agent.sleep(1n)", nil, "thrown TypeError"}, {"agent.sleep({})", nil, "exited"},
		{"agent.monotonicNow()", nil, "Now"}, {"agent.monotonicNow(5)", nil, "Now"}, {"throw agent.monotonicNow()", []eval.Ans{{Word: 7}}, "thrown 7"}, {"throw agent.monotonicNow()", []eval.Ans{{Word: 1<<53 + 8}}, "thrown 8"}, {"throw agent.monotonicNow()", []eval.Ans{{Word: 1<<53 - 1}}, "thrown 9007199254740991"}, {"throw typeof agent.monotonicNow()", some(), "thrown number"},
		{"let f = agent.sleep; f(3)", nil, "Sleep n 3"}, {"(0 || agent.report)(3)", nil, "Report 3"}, {"({r: agent.report}).r(4)", nil, "Report 4"},
	})
}

func TestP12_1_Broadcast(t *testing.T) {
	checkAsked(t, "let agent = $262.agent, s = new SharedArrayBuffer(16); ", []asked{
		{"agent.broadcast(s)", given(), "Broadcast block 3 len 16"}, {"throw agent.broadcast(s, 1)", given(eval.Ans{Word: 1, Block: 2}), "thrown undefined"}, {"agent.broadcast({})", given(), "thrown TypeError"}, {"agent.broadcast()", given(), "thrown TypeError"}, {"agent.broadcast(1)", given(), "thrown TypeError"}, {"agent.broadcast(new ArrayBuffer(8))", given(), "thrown TypeError"}, {"agent.broadcast(new Int8Array(s))", given(), "thrown TypeError"}, {"agent.broadcast(new Int8Array(s).buffer)", given(), "Broadcast block 3 len 16"}, {"agent.broadcast(SharedArrayBuffer)", given(), "thrown TypeError"},
		{"agent.receiveBroadcast(b => agent.broadcast(b))", given(eval.Ans{Block: 9, Len: 7}), "Broadcast block 9 len 7"}, {"agent.receiveBroadcast(b => { throw b === s })", given(eval.Ans{Block: 3, Len: 16}), "thrown false"},
	})
	checkAsked(t, "let agent = $262.agent; ", []asked{
		{"agent.receiveBroadcast(b => 1)", nil, "Receive"}, {"agent.receiveBroadcast(function () { })", nil, "Receive"}, {"agent.receiveBroadcast(b => { throw b.byteLength })", []eval.Ans{{Block: 2, Len: 24}}, "thrown 24"}, {"agent.receiveBroadcast(b => { throw b })", some(), "thrown object"}, {"throw agent.receiveBroadcast(b => 5)", []eval.Ans{{Block: 2, Len: 24}}, "thrown undefined"}, {"agent.receiveBroadcast(b => new Int32Array(b, 8)[1])", []eval.Ans{{Block: 2, Len: 24}}, "Load block 2 at 12 size 4 whole"},
		{"agent.receiveBroadcast(function () { throw typeof this })", some(), "thrown undefined"}, {"agent.receiveBroadcast(() => this)", some(), "exited"}, {"agent.receiveBroadcast((a, b) => { throw b })", some(), "thrown undefined"}, {"let o = {f: function () { agent.receiveBroadcast(() => { throw this.a }) }, a: 5}; o.f()", some(), "thrown 5"}, {"agent.receiveBroadcast(b => 1, nobody)", nil, "thrown ReferenceError"}, {"try { agent.receiveBroadcast(b => { throw 5 }) } catch (e) { throw e + 1 }", some(), "thrown 6"}, {"agent.receiveBroadcast(b => nobody)", some(), "thrown ReferenceError"}, {"agent.receiveBroadcast(b => 1 / 2)", some(), "exited"},
		{"agent.receiveBroadcast(b => { throw b.byteLength })", []eval.Ans{{Len: -1}}, "thrown 0"}, {"agent.receiveBroadcast(b => { throw b.byteLength })", []eval.Ans{{Len: 1 << 53}}, "thrown 0"}, {"agent.receiveBroadcast(b => { throw b.byteLength })", []eval.Ans{{Len: -1 << 63}}, "thrown 0"}, {"agent.receiveBroadcast(b => { throw b.byteLength })", []eval.Ans{{Len: 1<<53 - 1}}, "thrown 9007199254740991"}, {"agent.receiveBroadcast(b => { throw b.byteLength })", []eval.Ans{{Len: 1, Code: 1}}, "thrown 1"}, {"agent.receiveBroadcast(b => { new Int8Array(b)[0] })", []eval.Ans{{Len: 0, Block: 1}}, "done"},
		{"agent.receiveBroadcast()", nil, "thrown TypeError"}, {"agent.receiveBroadcast(1)", nil, "thrown TypeError"}, {"agent.receiveBroadcast({})", nil, "thrown TypeError"}, {"agent.receiveBroadcast(Object)", nil, "thrown TypeError"}, {"agent.receiveBroadcast(Boolean)", nil, "thrown TypeError"}, {"agent.receiveBroadcast(agent.report)", nil, "thrown TypeError"},
		{"agent.receiveBroadcast(a => agent.receiveBroadcast(b => { throw '' + a.byteLength + b.byteLength }))", []eval.Ans{{Len: 4}}, "Receive"}, {"agent.receiveBroadcast(a => agent.receiveBroadcast(b => { throw '' + a.byteLength + b.byteLength }))", []eval.Ans{{Len: 4}, {Len: 5}}, "thrown 45"},
	})
}
