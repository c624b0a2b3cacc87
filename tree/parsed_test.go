package tree_test

import (
	"testing"

	"rendezvous/api"
	"rendezvous/parse"
	"rendezvous/text"
	"rendezvous/tree"
)

// checkParsed prints a tree, if it is not too long, and parses it again.
func checkParsed(t *testing.T, one api.Tree) {
	t.Helper()
	u, errno := tree.Print(one)
	if errno == api.ErrLong {
		return
	}
	again, _, other := parse.Parse(u)
	if s, _ := text.Plain(u); errno != api.OK || other != api.OK || !tree.Same(again, one) {
		t.Fatalf("%q is printed, error %d, and parsed with error %d", s, errno, other)
	}
}

func TestP6_4_Parsed(t *testing.T) {
	for _, s := range tree.Sources() {
		u, _, _ := text.Units([]byte(s))
		one, at, errno := parse.Parse(u)
		if errno != api.OK || !tree.May(one) {
			t.Fatalf("Parse(%q) = error %d at %d, or no good tree", s, errno, at)
		}
		checkParsed(t, one)
	}
	for _, one := range tree.Trees(15, 2000) {
		checkParsed(t, one)
	}
}
