package eval

import (
	"slices"
	"strings"

	"rendezvous/api"
	"rendezvous/conv"
	"rendezvous/elem"
	"rendezvous/heap"
)

// firstIntrinsic is the number of the first intrinsic. They are no cells that are
// made, so that their numbers are behind those of all cells.
const firstIntrinsic = api.MaxHeap

// What has the members of all arrays and of all views. These are no names, so
// that no intrinsic is meant.
const (
	ofArrays = "[]"
	ofViews  = "[view]"
)

// The names of the holders of intrinsics; global is the holder of those that are
// names of the outermost scope.
const (
	global   = ""
	harness  = "$262"
	ofAgents = "agent"
)

// hearing is the name of the intrinsic that calls a function.
const hearing = "receiveBroadcast"

const errorNames = "Error TypeError RangeError ReferenceError SyntaxError"

// intrinsic is an object that a name of the outermost scope means, or that is a
// member of a holder. Its kind is that of the elements that it is for.
type intrinsic struct {
	holder, name string
	kind         int
}

// isHolder reports whether it only holds others, and can't be called.
func (x intrinsic) isHolder() bool {
	switch x.name {
	case "Atomics", harness, ofAgents:
		return true
	}
	return false
}

// intrinsics returns all intrinsics, each of which is known by its place here.
func intrinsics() []intrinsic {
	list := slices.Concat(
		held(global, "Object Array Number BigInt String Boolean Atomics $262"),
		held(global, errorNames),
		held(global, "ArrayBuffer SharedArrayBuffer DataView"),
		held("Object", "keys create"),
		held("Array", "isArray"),
		held(ofArrays, "push pop"),
		held("Atomics", "load store add and or sub xor exchange compareExchange isLockFree wait notify"),
		held(harness, ofAgents),
		held(ofAgents, "start broadcast "+hearing+" report getReport sleep monotonicNow"),
	)
	for kind := range elem.Kinds() {
		name := nameOf(kind)
		list = append(list, intrinsic{global, name + "Array", kind},
			intrinsic{ofViews, "get" + name, kind}, intrinsic{ofViews, "set" + name, kind})
	}
	return list
}

// held returns the intrinsics of a holder that have nothing to do with elements.
func held(holder, names string) []intrinsic {
	list := []intrinsic{}
	for _, name := range strings.Fields(names) {
		list = append(list, intrinsic{holder: holder, name: name})
	}
	return list
}

func nameOf(kind int) string {
	switch kind {
	case api.EInt8:
		return "Int8"
	case api.EUint8:
		return "Uint8"
	case api.EInt16:
		return "Int16"
	case api.EUint16:
		return "Uint16"
	case api.EInt32:
		return "Int32"
	case api.EUint32:
		return "Uint32"
	case api.EBigInt64:
		return "BigInt64"
	}
	return "BigUint64"
}

// intrinsic returns the member of a holder with this name, if it has one.
func (r *Realm) intrinsic(holder, name string) (heap.Value, bool) {
	for i, x := range r.intrinsics {
		if x.holder == holder && x.name == name {
			return heap.Value{Kind: heap.Object, Ref: firstIntrinsic + i}, true
		}
	}
	return heap.Value{}, false
}

// global returns the value of a name of the outermost scope, if there is one.
func (r *Realm) global(name string) (heap.Value, bool) {
	switch name {
	case "undefined":
		return heap.Value{}, true
	case "NaN":
		return conv.Num(api.Num{Kind: api.NNaN}), true
	case "Infinity":
		return conv.Num(api.Num{Kind: api.NInf}), true
	}
	return r.intrinsic(global, name)
}

// isUnsupported reports whether a name is one of the language that is not supported.
func isUnsupported(name string) bool {
	switch name {
	case "globalThis", "AggregateError", "Date", "EvalError", "FinalizationRegistry", "Float32Array",
		"Float64Array", "Function", "Iterator", "JSON", "Map", "Math", "Promise", "Proxy", "Reflect",
		"RegExp", "Set", "Symbol", "URIError", "Uint8ClampedArray", "WeakMap", "WeakRef", "WeakSet",
		"decodeURI", "decodeURIComponent", "encodeURI", "encodeURIComponent", "escape", "isFinite",
		"isNaN", "parseFloat", "parseInt", "unescape":
		return true
	}
	return false
}

// callIntrinsic calls an intrinsic that can be called.
func (r *Realm) callIntrinsic(x intrinsic, this heap.Value, args arguments) (heap.Value, *Jump) {
	switch x.holder {
	case "Object":
		return r.callOfObject(x.name, args)
	case "Array":
		return conv.Truth(r.head(args.at(0)).Kind == heap.Array), nil
	case ofArrays:
		return r.callOfArrays(x.name, this, args)
	case ofViews:
		return r.callOfViews(x, this, args)
	case "Atomics":
		return r.callOfAtomics(x.name, args)
	case ofAgents:
		return r.callOfAgents(x.name, args)
	}
	return r.callGlobal(x.name, args)
}

// callGlobal calls an intrinsic that a name of the outermost scope means.
func (r *Realm) callGlobal(name string, args arguments) (heap.Value, *Jump) {
	if isErrorName(name) {
		return r.toError(name, args.at(0))
	}
	switch name {
	case "Object", "Array":
		return r.fail(conv.Exit)
	case "Number":
		return r.toNumber(args)
	case "BigInt":
		return r.toBigInt(args.at(0))
	case "String":
		return r.toText(args)
	case "Boolean":
		return conv.Truth(conv.Bool(args.at(0))), nil
	}
	return r.fail(conv.Type)
}

// constructIntrinsic constructs an object by an intrinsic.
func (r *Realm) constructIntrinsic(x intrinsic, args arguments) (heap.Value, *Jump) {
	switch {
	case x.holder != global:
		return r.fail(conv.Type)
	case x.kind != 0:
		return r.constructTyped(x.kind, args)
	case isErrorName(x.name):
		return r.toError(x.name, args.at(0))
	}
	switch x.name {
	case "Object", "Array", "Number", "String", "Boolean":
		return r.fail(conv.Exit)
	case "ArrayBuffer":
		return r.constructBuffer(args.at(0))
	case "SharedArrayBuffer":
		return r.constructShared(args.at(0), args.at(1))
	case "DataView":
		return r.constructView(args)
	}
	return r.fail(conv.Type)
}

func isErrorName(name string) bool { return slices.Contains(strings.Fields(errorNames), name) }
