package agent_test

import (
	"fmt"
	"testing"

	"rendezvous/agent"
	"rendezvous/api"
	"rendezvous/early"
	"rendezvous/eval"
	"rendezvous/text"
)

// wide are the greatest limits.
func wide() eval.Limits {
	return eval.Limits{Heap: api.MaxHeap, Depth: api.MaxDepth, Fuel: api.MaxFuel}
}

// accepted is the tree of a source.
func accepted(t *testing.T, source string) api.Tree {
	t.Helper()
	one, at, errno := early.Accept([]byte(source))
	if errno != api.OK {
		t.Fatalf("%q: error %d at %d", source, errno, at)
	}
	return one
}

// made is an agent for a tree.
func made(t *testing.T, one api.Tree, lim eval.Limits) *agent.Agent {
	t.Helper()
	a, errno := agent.New(one, lim)
	if errno != api.OK || a == nil {
		t.Fatalf("New: error %d", errno)
	}
	return a
}

// give gives an answer that the agent waits for.
func give(t *testing.T, a *agent.Agent, x eval.Ans) {
	t.Helper()
	if errno := a.Give(x); errno != api.OK {
		t.Fatalf("Give after %d answers: error %d", a.Count(), errno)
	}
}

// told tells all of a request and of an end.
func told(q eval.Req, e eval.End) string { return fmt.Sprintf("%+v %+v", q, e) }

// state tells what an agent shows of itself.
func state(a *agent.Agent) string {
	q, e := a.Ask()
	return fmt.Sprintf("%s after %d", told(q, e), a.Count())
}

// specified tells what chapter 12 makes of a tree and answers.
func specified(one api.Tree, lim eval.Limits, answers []eval.Ans) string {
	q, e := eval.Next(one, lim, answers)
	return fmt.Sprintf("%s after %d", told(q, e), len(answers))
}

// some are n answers, all of which differ.
func some(n int) []eval.Ans {
	list := []eval.Ans{}
	for i := range n {
		list = append(list, eval.Ans{Word: uint64(3 * i), Block: i, Len: 8 * i, Text: ascii("told")})
	}
	return list
}

// follow gives an agent the answers one by one, and holds it to chapter 12 after
// each of them, up to its end. It returns how many it has got.
func follow(t *testing.T, what string, one api.Tree, lim eval.Limits, answers []eval.Ans) int {
	t.Helper()
	a := made(t, one, lim)
	for n, x := range answers {
		got, want := state(a), specified(one, lim, answers[:n])
		if got != want {
			t.Fatalf("%s with %v: %s; want %s", what, lim, got, want)
		}
		if _, e := a.Ask(); e.Kind != eval.Asks {
			return n
		}
		give(t, a, x)
	}
	if got, want := state(a), specified(one, lim, answers); got != want {
		t.Fatalf("%s with %v: %s; want %s", what, lim, got, want)
	}
	return len(answers)
}

func ascii(s string) []uint16 { return text.Ascii(s) }
