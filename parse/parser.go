package parse

import (
	"slices"

	"rendezvous/api"
	"rendezvous/lex"
)

// parser reads the tokens from the first one on. When one of them cannot follow,
// it keeps the error and goes to the end, where nothing is left to be taken: so
// all that is being read comes to its end there, and no caller needs to ask.
type parser struct {
	tokens []api.Token
	next   int
	fault  int
	errno  api.Errno
}

func (p *parser) now() api.Token { return p.tokens[p.next] }

// is reports whether the token is one of some signs and words. The names are
// other texts than these, and all other tokens have none.
func (p *parser) is(texts ...string) bool {
	return slices.Contains(texts, p.now().Text)
}

func (p *parser) isName() bool { return p.now().Kind == api.TName }

func (p *parser) isEnd() bool { return p.now().Kind == api.TEnd }

// isAhead reports whether a sign or word stands behind the token, which is not the end.
func (p *parser) isAhead(s string) bool { return p.tokens[p.next+1].Text == s }

// pop takes the token, which is not the end.
func (p *parser) pop() api.Token {
	token := p.now()
	p.next++
	return token
}

// take takes a sign or word, if it is the token.
func (p *parser) take(s string) bool {
	if !p.is(s) {
		return false
	}
	p.next++
	return true
}

// must takes a sign or word where nothing else can follow.
func (p *parser) must(s string) {
	if !p.take(s) {
		p.refuse()
	}
}

// name takes a name where nothing else can follow.
func (p *parser) name() string {
	if !p.isName() {
		p.refuse()
		return ""
	}
	return p.pop().Text
}

// member takes what names a property: a name, or a word of either kind.
func (p *parser) member() string {
	if !p.isName() && p.now().Kind != api.TWord {
		p.refuse()
		return ""
	}
	return p.pop().Text
}

// list reads what stands between commas, one by one, and the sign behind it.
func (p *parser) list(end string, one func() branch) []branch {
	if p.take(end) {
		return nil
	}
	list := []branch{one()}
	for p.take(",") {
		list = append(list, one())
	}
	p.must(end)
	return list
}

// refuse tells that the token cannot follow those before it.
func (p *parser) refuse() branch {
	if lex.Word(p.now().Text) == 2 {
		return p.fail(api.ErrSubset)
	}
	return p.fail(api.ErrSyntax)
}

// fail keeps the error, unless there was one before.
func (p *parser) fail(errno api.Errno) branch {
	if p.errno == api.OK {
		p.fault, p.errno = p.now().At, errno
		p.next = len(p.tokens) - 1
	}
	return branch{}
}
