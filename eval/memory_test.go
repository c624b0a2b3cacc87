package eval_test

import (
	"slices"
	"testing"

	"rendezvous/api"
	"rendezvous/eval"
	"rendezvous/tree"
)

// deep is a copy of a tree in memory of its own, with spare capacity in all of
// its lists, which is filled.
func deep(t api.Tree) api.Tree {
	nodes := make([]api.Node, 0, len(t.Nodes)+3)
	for _, node := range t.Nodes {
		node.Kids = roomy(node.Kids, 1)
		node.Str = roomy(node.Str, 'Z')
		node.B.Mag = roomy(node.B.Mag, 99)
		nodes = append(nodes, node)
	}
	return api.Tree{Nodes: roomy(nodes, api.Node{Kind: tree.Empty})}
}

// roomy is a copy of a list with others behind it.
func roomy[T any](list []T, x T) []T {
	return append(slices.Clone(list), x, x, x)[:len(list)]
}

// hasRoom reports whether what roomy has put behind a list is still there.
func hasRoom[T any](list []T, is func(T) bool) bool {
	all := list[:len(list)+3]
	return is(all[len(list)]) && is(all[len(list)+1]) && is(all[len(list)+2])
}

// intact reports whether a tree is still what deep has made of another one.
func intact(t, was api.Tree) bool {
	fine := tree.Same(t, was) && hasRoom(t.Nodes, func(n api.Node) bool { return n.Kind == tree.Empty && len(n.Kids) == 0 })
	for _, node := range t.Nodes {
		fine = fine && hasRoom(node.Kids, func(n int) bool { return n == 1 }) && hasRoom(node.Str, func(u uint16) bool { return u == 'Z' }) && hasRoom(node.B.Mag, func(n uint32) bool { return n == 99 })
	}
	return fine
}

// roomyAnswers is a copy of answers, with others behind them.
func roomyAnswers(l []eval.Ans) []eval.Ans {
	list := slices.Clone(l)
	for i := range list {
		list[i].Text = roomy(list[i].Text, 'Y')
	}
	return roomy(list, eval.Ans{Word: 77, Text: ascii("behind")})
}

func sameAnswers(a, b []eval.Ans) bool {
	return slices.EqualFunc(a, b, func(x, y eval.Ans) bool {
		return x.Word == y.Word && x.Code == y.Code && x.Block == y.Block && x.Len == y.Len && slices.Equal(x.Text, y.Text)
	})
}

func answersIntact(l, was []eval.Ans) bool {
	fine := sameAnswers(l, was) && hasRoom(l, func(a eval.Ans) bool { return a.Word == 77 && plain(a.Text) == "behind" })
	for _, a := range l {
		fine = fine && hasRoom(a.Text, func(u uint16) bool { return u == 'Y' })
	}
	return fine
}

// fill writes into a list and all its spare capacity.
func fill[T any](list []T, x T) {
	_ = append(list, x, x, x)
	list = list[:cap(list)]
	for i := range list {
		list[i] = x
	}
}

// wipe writes into all lists of a tree and of answers.
func wipe(t api.Tree, l []eval.Ans) {
	for _, node := range t.Nodes {
		fill(node.Kids, -5)
		fill(node.Str, 0xEEEE)
		fill(node.B.Mag, 0xEEEE)
	}
	for _, a := range l {
		fill(a.Text, 0xEEEE)
	}
	fill(t.Nodes, api.Node{Kind: 99})
	fill(l, eval.Ans{Word: 99})
}

// memorySamples are programs whose requests and ends have texts, and others.
func memorySamples() []dialogue {
	report := eval.Ans{Text: ascii("told")}
	return append(dialogues(), []dialogue{
		{"throw 'text'", nil, nil}, {"let a = 'text'; throw a", nil, nil}, {"throw ['text'][0]", nil, nil}, {"throw {a: 'text'}.a", nil, nil}, {"throw Object.keys({text: 1})[0]", nil, nil}, {"throw new Error('text').message", nil, nil}, {"throw new TypeError('text')", nil, nil}, {"throw 'a' + 'b'", nil, nil}, {"throw (x => x)('text')", nil, nil}, {"throw 340282366920938463463374607431768211456n", nil, nil}, {"throw typeof 1", nil, nil}, {"try { throw 'text' } catch (e) { throw e }", nil, nil}, {"throw 'text' && 'more'", nil, nil}, {"throw String('text')", nil, nil},
		{"$262.agent.start('text')", nil, nil}, {"let a = 'text'; $262.agent.start(a)", nil, nil}, {"$262.agent.report('text')", nil, nil}, {"let o = {a: 'text'}; $262.agent.start(o.a); $262.agent.start(o.a)", make([]eval.Ans, 1), nil}, {"throw $262.agent.getReport()", []eval.Ans{report}, nil}, {"$262.agent.start($262.agent.getReport())", []eval.Ans{report}, nil}, {"$262.agent.report($262.agent.getReport())", []eval.Ans{report}, nil}, {"let a = $262.agent.getReport(); $262.agent.report(a); $262.agent.start(a)", []eval.Ans{report, {}}, nil}, {"throw 5n * 1n", nil, nil}, {"throw [7n][0]", nil, nil}, {"(a => { throw a })('text')", nil, nil},
		{"'a b'; 12n; ({'c d': 'e'}); 1 / 2", nil, nil},
	}...)
}

func TestP12_2_Arguments(t *testing.T) {
	for _, c := range memorySamples() {
		was := accepted(t, c.source)
		for _, lim := range []eval.Limits{wide(), {Heap: 2, Depth: 4, Fuel: 6}, {}} {
			one, answers := deep(was), roomyAnswers(c.answers)
			q, e := eval.Next(one, lim, answers)
			want := told(q, e)
			if !intact(one, was) || !answersIntact(answers, c.answers) {
				t.Errorf("%s: an argument is changed", c.source)
			}
			// What is written into the arguments later is not in the results.
			wipe(one, answers)
			if got := told(q, e); got != want {
				t.Errorf("%s: %s, then %s", c.source, want, got)
			}
			if got := told(eval.Next(was, lim, c.answers)); got != want {
				t.Errorf("%s: %s, then %s", c.source, want, got)
			}
		}
	}
}

func TestP12_2_Results(t *testing.T) {
	for _, c := range memorySamples() {
		one, answers := deep(accepted(t, c.source)), roomyAnswers(c.answers)
		q, e := eval.Next(one, wide(), answers)
		p, d := eval.Next(one, wide(), answers)
		want := told(q, e)
		fill(q.Text, 0xEEEE)
		fill(e.Text, 0xEEEE)
		if !intact(one, accepted(t, c.source)) || !answersIntact(answers, c.answers) {
			t.Errorf("%s: what is written into the result is in an argument", c.source)
		}
		if told(p, d) != want || told(eval.Next(one, wide(), answers)) != want {
			t.Errorf("%s: results share memory", c.source)
		}
	}
}
