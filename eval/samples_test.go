package eval_test

import (
	"strconv"
	"strings"
	"testing"

	"rendezvous/api"
	"rendezvous/early"
	"rendezvous/eval"
	"rendezvous/num"
	"rendezvous/text"
)

// wide are the greatest limits.
func wide() eval.Limits {
	return eval.Limits{Heap: api.MaxHeap, Depth: api.MaxDepth, Fuel: api.MaxFuel}
}

// accepted is the tree of a source.
func accepted(t *testing.T, source string) api.Tree {
	t.Helper()
	one, at, errno := early.Accept([]byte(source))
	if errno != api.OK {
		t.Fatalf("%q: error %d at %d", source, errno, at)
	}
	return one
}

// kindsOfRequests has the kinds of requests by their numbers.
var kindsOfRequests = strings.Fields("nothing Make Load Store Change Swap Wait Notify Start Broadcast Receive Report GetReport Sleep Now")

// kindsOfEnds has the kinds of ends by their numbers.
var kindsOfEnds = strings.Fields("asks done thrown exited heap depth fuel")

// requested tells a request: its kind, and all fields that are not zero.
func requested(q eval.Req) string {
	s := kindsOfRequests[q.Kind]
	for i, n := range []int{q.Block, q.At, q.Size, q.Op, q.Len} {
		if n != 0 {
			s += " " + strings.Fields("block at size op len")[i] + " " + strconv.Itoa(n)
		}
	}
	for i, is := range []bool{q.Seq, q.NoTear} {
		if is {
			s += " " + strings.Fields("seq whole")[i]
		}
	}
	for i, w := range []uint64{q.Word, q.Want} {
		if w != 0 {
			s += " " + strings.Fields("word want")[i] + " " + strconv.FormatUint(w, 10)
		}
	}
	if q.N != (api.Num{}) {
		s += " n " + num.Text(q.N)
	}
	return strings.TrimSpace(s + " " + plain(q.Text))
}

// plain is a text, with a mark where it is not ASCII.
func plain(u []uint16) string {
	s := ""
	for _, unit := range u {
		if unit < 128 {
			s += string(rune(unit))
		} else {
			s += "?"
		}
	}
	return s
}

// told tells what Next answers: the request, or the end.
func told(q eval.Req, e eval.End) string {
	switch {
	case e.Kind != eval.Asks && requested(q) != "nothing":
		return "beside an end: " + requested(q)
	case e.Kind == eval.Asks && len(e.Text) > 0:
		return "beside a request: " + plain(e.Text)
	case e.Kind == eval.Asks:
		return requested(q)
	case e.Kind != eval.Thrown && len(e.Text) > 0:
		return "an end with " + plain(e.Text)
	case e.Kind == eval.Thrown:
		return "thrown " + plain(e.Text)
	}
	return kindsOfEnds[e.Kind]
}

// next tells what a source does with these limits and answers.
func next(t *testing.T, source string, lim eval.Limits, answers ...eval.Ans) string {
	t.Helper()
	return told(eval.Next(accepted(t, source), lim, answers))
}

// checkEnds holds sources to their ends.
func checkEnds(t *testing.T, want map[string]string) {
	t.Helper()
	for source, end := range want {
		if got := next(t, source, wide()); got != end {
			t.Errorf("%s: %s; want %s", source, got, end)
		}
	}
}

// checkAll holds sources to one end.
func checkAll(t *testing.T, end string, sources ...string) {
	t.Helper()
	for _, source := range sources {
		if got := next(t, source, wide()); got != end {
			t.Errorf("%s: %s; want %s", source, got, end)
		}
	}
}

// checkValues holds expressions to their values, as texts. Ahead of each one
// stand some declarations.
func checkValues(t *testing.T, ahead string, want map[string]string) {
	t.Helper()
	for source, value := range want {
		if got := next(t, ahead+"; throw ("+source+")", wide()); got != "thrown "+value {
			t.Errorf("%s; %s: %s; want %s", ahead, source, got, value)
		}
	}
}

// asked is a source, the answers that it is given, and what it does then.
type asked struct {
	source  string
	answers []eval.Ans
	want    string
}

func checkAsked(t *testing.T, ahead string, list []asked) {
	t.Helper()
	for _, one := range list {
		if got := next(t, ahead+one.source, wide(), one.answers...); got != one.want {
			t.Errorf("%s%s with %v: %s; want %s", ahead, one.source, one.answers, got, one.want)
		}
	}
}

func ascii(s string) []uint16 { return text.Ascii(s) }
