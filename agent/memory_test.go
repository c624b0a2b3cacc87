package agent_test

import (
	"fmt"
	"slices"
	"testing"

	"rendezvous/api"
	"rendezvous/eval"
	"rendezvous/tree"
)

// roomy is a copy of a list with others behind it.
func roomy[T any](list []T, x T) []T {
	return append(slices.Clone(list), x, x, x)[:len(list)]
}

// fill writes into a list and all its spare capacity.
func fill[T any](list []T, x T) {
	_ = append(list, x, x, x)
	list = list[:cap(list)]
	for i := range list {
		list[i] = x
	}
}

// deep is a copy of a tree with spare capacity in all of its lists, which is filled.
func deep(t api.Tree) api.Tree {
	nodes := []api.Node{}
	for _, node := range t.Nodes {
		node.Kids = roomy(node.Kids, 1)
		node.Str = roomy(node.Str, 'Z')
		node.B.Mag = roomy(node.B.Mag, 99)
		nodes = append(nodes, node)
	}
	return api.Tree{Nodes: roomy(nodes, api.Node{Kind: tree.Empty})}
}

// wipe writes into all lists of a tree.
func wipe(t api.Tree) {
	for _, node := range t.Nodes {
		fill(node.Kids, -5)
		fill(node.Str, 0xEEEE)
		fill(node.B.Mag, 0xEEEE)
	}
	fill(t.Nodes, api.Node{Kind: 99})
}

// whole tells all of a tree, with what is behind its lists.
func whole(t api.Tree) string {
	s := ""
	for _, node := range t.Nodes[:len(t.Nodes)+3] {
		s += fmt.Sprintf("%+v %v %v %v;", node, node.Kids[:cap(node.Kids)], node.Str[:cap(node.Str)], node.B.Mag[:cap(node.B.Mag)])
	}
	return s
}

// keepers are programs that keep texts, BigInts and functions over their requests.
func keepers() []string {
	return []string{
		"let a = 'text', o = {'a key': 'text'}; $262.agent.report(a); $262.agent.start(a); $262.agent.start(o['a key']); $262.agent.start('text'); throw a + o['a key']", "let a = 340282366920938463463374607431768211456n, l = [a, 5n]; $262.agent.report(a); a += 1n; $262.agent.report(a); throw l[0] * 1n + 18446744073709551616n", "throw 18446744073709551616n + BigInt($262.agent.monotonicNow())", "throw 'text' + $262.agent.getReport() + 'more'", "let r = $262.agent.getReport(); $262.agent.report(r); $262.agent.start(r); $262.agent.start(r); throw r",
		"let l = [$262.agent.getReport(), $262.agent.getReport()]; $262.agent.start(l[0]); throw l[0] + l[1]", "$262.agent.start($262.agent.getReport()); throw $262.agent.getReport()", "try { throw 'text' } catch (e) { $262.agent.report(1); throw e }", "let f = x => { $262.agent.report(1); throw x }; f('text')", "throw 'text' && ($262.agent.report(1) || 'more')", "throw new Error('text' + $262.agent.report(1)).message", "throw (() => { try { return 'text' } finally { $262.agent.report(1) } })()", "throw ['text', $262.agent.report(1)][0]", "throw $262.agent.getReport() || 'text'",
	}
}

func TestP13_2_Trees(t *testing.T) {
	for _, source := range append(keepers(), "1", "") {
		was := accepted(t, source)
		one := deep(was)
		before := whole(one)
		a := made(t, one, wide())
		if whole(one) != before {
			t.Errorf("%s: New changes the tree", source)
		}
		b := made(t, one, wide())
		wipe(one)
		answers := some(6)
		for n, x := range answers {
			if got, want := state(a), specified(was, wide(), answers[:n]); got != want {
				t.Fatalf("%s: the tree is retained: %s; want %s", source, got, want)
			}
			if a.Give(x) != api.OK {
				break
			}
		}
		// Nor is the tree of one agent that of another.
		if got, want := state(b), specified(was, wide(), nil); got != want {
			t.Errorf("%s: %s; want %s", source, got, want)
		}
		c := b.Copy()
		wipe(deep(one))
		if state(c) != state(b) {
			t.Errorf("%s: the copy: %s; want %s", source, state(c), state(b))
		}
	}
}

// A tree that is used by an agent is not written into.
func TestP13_2_TreesStay(t *testing.T) {
	for _, place := range places() {
		one := deep(accepted(t, program(place)))
		before := whole(one)
		a := made(t, one, wide())
		for _, x := range some(9) {
			if a.Copy().Give(x) != a.Give(x) {
				t.Errorf("%s: the copy ends elsewhere", place)
			}
		}
		if whole(one) != before {
			t.Errorf("%s: the tree is changed", place)
		}
	}
}

func TestP13_2_Answers(t *testing.T) {
	for _, source := range keepers() {
		one := accepted(t, source)
		answers := some(6)
		a := made(t, one, wide())
		for n, x := range answers {
			x.Text = roomy(ascii("told"), 'Y')
			errno := a.Give(x)
			if string(rune(x.Text[:7][6])) != "Y" || fmt.Sprint(x.Text[:4]) != fmt.Sprint(ascii("told")) {
				t.Errorf("%s: Give changes the answer", source)
			}
			fill(x.Text, 0xEEEE)
			if errno != api.OK {
				break
			}
			if got, want := state(a), specified(one, wide(), answers[:n+1]); got != want {
				t.Fatalf("%s: the answer is retained: %s; want %s", source, got, want)
			}
		}
	}
}

func TestP13_2_Results(t *testing.T) {
	for _, source := range keepers() {
		one := accepted(t, source)
		a := made(t, one, wide())
		answers := some(6)
		for n, x := range answers {
			b := a.Copy()
			want := specified(one, wide(), answers[:n])
			q, e := a.Ask()
			p, d := a.Ask()
			r, f := b.Ask()
			fill(q.Text, 0xEEEE)
			fill(e.Text, 0xEEEE)
			if told(p, d) != told(r, f) || state(a) != want || state(b) != want {
				t.Errorf("%s: results share memory: %s, %s; want %s", source, state(a), state(b), want)
			}
			fill(r.Text, 0xDDDD)
			fill(f.Text, 0xDDDD)
			if state(a) != want || state(b) != want {
				t.Errorf("%s: results of a copy share memory: %s, %s; want %s", source, state(a), state(b), want)
			}
			// What is written into a request is not in what the program keeps.
			b.Give(x)
			if got := specified(one, wide(), append(slices.Clone(answers[:n]), x)); d.Kind == eval.Asks && state(b) != got {
				t.Errorf("%s: %s; want %s", source, state(b), got)
			}
			if a.Give(x) != api.OK {
				break
			}
		}
	}
}
