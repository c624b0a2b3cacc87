package early_test

import (
	"math/rand"
	"slices"
	"strings"
	"testing"

	"rendezvous/api"
	"rendezvous/parse"
	"rendezvous/text"
	"rendezvous/tree"
)

// kindNames has the kinds that declare names, or that can be wrong.
var kindNames = map[int]string{
	tree.Program: "Program", tree.Block: "Block", tree.For: "For", tree.Catch: "Catch", tree.Func: "Func", tree.Function: "Function", tree.Arrow: "Arrow",
	tree.Decl: "Decl", tree.Label: "Label", tree.Break: "Break", tree.Continue: "Continue", tree.Return: "Return",
}

// parsed is the tree of a source that follows the grammar.
func parsed(t *testing.T, s string) api.Tree {
	t.Helper()
	one, at, errno := parse.Parse(text.Ascii(s))
	if errno != api.OK || !tree.May(one) {
		t.Fatalf("Parse(%q): error %d at %d, or no good tree", s, errno, at)
	}
	return one
}

// frames are sources with a place for statements in them.
var frames = strings.Split(`{ @ }
@ let a
let b; @
const c = 1, a; @
@ function a(b) { return b }
{ const b = 1; @ let c }
a: @
b: @
a: b: @
a: { @ }
if (1) @
if (1) ; else @
while (1) @
while (1) { @ }
b: while (1) { @ }
for (;;) @
for (let a, c;;) { @ }
for (const b = 1;;) { @ }
a: for (;;) @
while ((() => { @ })()) break
for (let c = function () { @ };;) ;
for (a = (b) => { @ };;) ;
for (; () => { @ }; b => { @ }) ;
x = { f: (c) => { @ }, g: [function c() { @ }] }
x => (a, b) => { @ }
function a(b) { @ }
function c(a, b) { { @ } }
(function a(b) { @ })
(function (c, c) { @ })
try { @ } catch (a) { }
try { } catch (a) { @ }
try { } catch (b) { { @ } }
try { } catch { @ }
try { } catch (c) { } finally { @ }
if (() => { @ }) b: @`, "\n")

// leaves are statements that may be wrong, or make others wrong.
var leaves = strings.Split(`;
let a
let b = 1, c
const b
const c = 1
let c, c
for (let a, a;;) ;
for (const b;;) ;
function a() { }
function c(a, b, a) { }
(b, b) => 1
(function b(a) { })
(c) => { let c }
try { } catch (a) { let b, a }
break
break a
break b
continue
continue a
continue b
return
a: ;
b: while (1) continue b
{ a: { } }`, "\n")

// filled puts statements into a frame, on lines of their own.
func filled(frame, inner string) string {
	return strings.ReplaceAll(frame, "@", "\n"+inner+"\n")
}

// read is a tree with its source.
type read struct {
	source string
	tree   api.Tree
}

// grammatical has the sources that follow the grammar, with their trees.
func grammatical(sources []string) []read {
	list := []read{}
	for _, s := range sources {
		if one, _, errno := parse.Parse(text.Ascii(s)); errno == api.OK {
			list = append(list, read{s, one})
		}
	}
	return list
}

// framed has all leaves in all frames, two of them at most around one leaf.
func framed() []read {
	sources := slices.Clone(leaves)
	for _, leaf := range leaves {
		for _, inner := range frames {
			one := filled(inner, leaf)
			sources = append(sources, one)
			for _, outer := range frames {
				sources = append(sources, filled(outer, one))
			}
		}
	}
	return grammatical(sources)
}

// randomSource has several statements, in frames that lie in one another.
func randomSource(r *rand.Rand, nest int) string {
	list := []string{}
	for range 1 + r.Intn(3) {
		one := leaves[r.Intn(len(leaves))]
		if nest > 0 && r.Intn(3) > 0 {
			one = filled(frames[r.Intn(len(frames))], randomSource(r, nest-1))
		}
		list = append(list, one)
	}
	// Fewer names make more errors, and more names fewer.
	s := strings.Join(list, "\n")
	if r.Intn(3) == 0 {
		s = strings.ReplaceAll(s, "let a", "let d"+string(rune('0'+r.Intn(10))))
	}
	return s
}

func randomTrees(seed int64, count int) []read {
	r, list := rand.New(rand.NewSource(seed)), []read{}
	for len(list) < count {
		if s := randomSource(r, r.Intn(5)); len(s) <= 600 {
			list = append(list, grammatical([]string{s})...)
		}
	}
	return list
}

// copied is a tree that shares nothing with t.
func copied(t api.Tree) api.Tree {
	nodes := slices.Clone(t.Nodes)
	for i := range nodes {
		nodes[i].Str = slices.Clone(nodes[i].Str)
		nodes[i].B.Mag = slices.Clone(nodes[i].B.Mag)
		nodes[i].Kids = slices.Clone(nodes[i].Kids)
	}
	return api.Tree{Nodes: nodes}
}

func fill[T any](l []T, with T) {
	for i := range l {
		l[i] = with
	}
}
