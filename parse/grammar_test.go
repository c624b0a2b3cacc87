package parse_test

import (
	"math/rand"
	"regexp"
	"slices"
	"strings"
	"testing"

	"rendezvous/api"
	"rendezvous/lex"
	"rendezvous/parse"
)

// grammar is the chapter's grammar, a kind of part a line, with | between its
// ways. The capitalized words are parts, all others are tokens and classes of
// them. What begins with is: or no: takes no token, and asks for the next one:
// most of these have the longest way taken, as a reader does that goes from the
// first token on. What wants fail has been met already, and cannot go on.
const grammar = `
Program = Statements end
Statements = | Statements Statement
Statement = Body | Decls End | function name Params Block
Body = ; | Block | if ( E ) Body | if ( E ) Body else Body | while ( E ) Body | for ( First ; Part ; Part ) Body
Body = break End | break no:nl name End | continue End | continue no:nl name End | return End | return no:nl E End | throw no:nl E End
Body = try Block Catch | try Block Finally | try Block Catch Finally | name : Body | is:plain E End
End = ; | is:ending
First = Part | Decls
Part = | E
Decls = let List | const List
List = Decl | List , Decl
Decl = name | name = E
Catch = catch Block | catch ( name ) Block
Finally = finally Block
Block = { Statements }
Params = ( ) | ( Names )
Names = name | Names , name
E = is:arrow name no:nl => Result no:assign | is:arrow Params no:nl => Result no:assign
E = no:arrow Cond no:assign | no:arrow Target assign E
Result = Block | no:{ E
Cond = Logic no:binary no:? | Logic no:binary ? E : E
Logic = Or | Coalesce
Or = And | Or || And
And = Bits | And && Bits
Coalesce = Bits ?? Bits | Coalesce ?? Bits
Bits = Xor | Bits BAR Xor
Xor = Bitand | Xor ^ Bitand
Bitand = Equal | Bitand & Equal
Equal = Order | Equal equality Order
Order = Shift | Order order Shift
Shift = Sum | Shift shift Sum
Sum = Product | Sum sum Product
Product = Prefix | Product product Prefix
Prefix = Postfix | unary Prefix | step Target no:link no:step | step Prefix fail
Postfix = Link no:link no:step | Target no:nl step
Target = name | no:arrow ( Target ) | Link . any | Link [ E ]
Link = Primary | New | Link . any | Link [ E ] | Link Arguments
New = new Callee Arguments | new Callee no:link
Callee = Primary | New | Callee . any | Callee [ E ]
Arguments = ( ) | ( Es )
Es = E | Es , E
Primary = number | bigint | string | name | true | false | null | this | [ ] | [ Es ] | { } | { Props } | function Params Block | function name Params Block | ( E )
Props = Prop | Props , Prop
Prop = string : E | number : E | any : E | name
`

var classes = map[string]string{
	"assign": "= += -= *= /= %= &= |= ^= <<= >>= >>>=", "equality": "== != === !==", "order": "< > <= >= in", "shift": "<< >> >>>", "sum": "+ -", "product": "* / %",
	"unary": "- + ! ~ typeof void", "step": "++ --", "link": ". [ (", "BAR": "|",
	"binary": "?? || && | ^ & == != === !== < > <= >= in << >> >>> + - * / %",
}

// classed tells of each text whether it is in a class.
var classed = func() map[string]map[string]bool {
	all := map[string]map[string]bool{}
	for class, list := range classes {
		all[class] = map[string]bool{}
		for _, text := range strings.Fields(list) {
			all[class][text] = true
		}
	}
	return all
}()

// rules has the ways of each part of the grammar.
var rules = func() map[string][][]string {
	all := map[string][][]string{}
	for _, line := range strings.Split(strings.TrimSpace(grammar), "\n") {
		part, ways, _ := strings.Cut(line, " = ")
		for _, way := range strings.Split(" "+ways+" ", " | ") {
			all[part] = append(all[part], strings.Fields(way))
		}
	}
	return all
}()

// matches tells whether a token is of a class, or is what is written.
func matches(t api.Token, want string) bool {
	switch want {
	case "end":
		return t.Kind == api.TEnd
	case "name":
		return t.Kind == api.TName
	case "number":
		return t.Kind == api.TNumber
	case "bigint":
		return t.Kind == api.TBig
	case "string":
		return t.Kind == api.TString
	case "any":
		return t.Kind == api.TName || t.Kind == api.TWord
	case "fail":
		return false
	}
	if list, ok := classed[want]; ok {
		return list[t.Text]
	}
	return t.Text == want && t.Kind != api.TName
}

var arrowForm = regexp.MustCompile(`^(n|\((n(,n)*)?\))>`)

// asked tells what stands behind is: or no:, of the tokens from the next one on.
func asked(list []api.Token, what string) bool {
	next := list[0]
	switch what {
	case "nl":
		return next.Nl
	case "ending":
		return !matches(next, ";") && (next.Nl || matches(next, "}") || matches(next, "end"))
	case "step":
		return matches(next, "step") && !next.Nl
	case "plain":
		isLabel := matches(next, "name") && matches(list[1], ":")
		return !isLabel && !matches(next, "{") && !matches(next, "function")
	case "arrow":
		s := ""
		for _, token := range list {
			switch {
			case matches(token, "name"):
				s += "n"
			case matches(token, "=>"):
				s += ">"
			case strings.ContainsAny(token.Text, "(,)"):
				s += token.Text
			default:
				s += " "
			}
		}
		return arrowForm.MatchString(s)
	}
	return matches(next, what)
}

// item is a way of a part, of which so much was met from a token on.
type item struct {
	part           string
	way, dot, from int
}

// state is what may have been met up to a token.
type state struct {
	items []item
	seen  map[item]bool
	done  map[string]bool // parts that take no token here
}

func (s *state) add(i item) {
	if !s.seen[i] {
		s.seen[i] = true
		s.items = append(s.items, i)
	}
}

// recognized returns the number of the first token that no way through the
// grammar can take, and whether an expression might begin there; the count of
// the tokens if there is none. It goes through all ways side by side.
func recognized(tokens []api.Token) (int, bool) {
	states := []*state{}
	now := &state{seen: map[item]bool{}, done: map[string]bool{}}
	for way := range rules["Program"] {
		now.add(item{"Program", way, 0, 0})
	}
	for at := range tokens {
		states = append(states, now)
		next := &state{seen: map[item]bool{}, done: map[string]bool{}}
		for k := 0; k < len(now.items); k++ {
			step(states, now.items[k], tokens[at:], next)
		}
		if len(next.items) == 0 {
			return at, slices.ContainsFunc(now.items, func(i item) bool { return i.part == "Primary" && i.dot == 0 })
		}
		now = next
	}
	return len(tokens), false
}

// step goes on with an item of the last state.
func step(states []*state, i item, rest []api.Token, next *state) {
	at := len(states) - 1
	now := states[at]
	way := rules[i.part][i.way]
	if i.dot == len(way) {
		if i.from == at {
			now.done[i.part] = true
		}
		for _, waiting := range slices.Clone(states[i.from].items) {
			if other := rules[waiting.part][waiting.way]; waiting.dot < len(other) && other[waiting.dot] == i.part {
				waiting.dot++
				now.add(waiting)
			}
		}
		return
	}
	want, gone := way[i.dot], i
	gone.dot++
	what, isAsked := strings.CutPrefix(want, "is:")
	not, isRefused := strings.CutPrefix(want, "no:")
	switch {
	case isAsked || isRefused:
		if isAsked && asked(rest, what) || isRefused && !asked(rest, not) {
			now.add(gone)
		}
	case rules[want] != nil:
		for way := range rules[want] {
			now.add(item{want, way, 0, at})
		}
		if now.done[want] {
			now.add(gone)
		}
	case matches(rest[0], want):
		next.add(gone)
	}
}

// checkRecognized holds what Parse tells of a source against the grammar.
func checkRecognized(t *testing.T, s string) bool {
	t.Helper()
	tokens, _, errno := lex.Tokens(source(s))
	if errno != api.OK {
		t.Fatalf("%q is not lexed", s)
	}
	at, want := 0, api.OK
	if n, begins := recognized(tokens); n < len(tokens) {
		at, want = tokens[n].At, api.ErrSyntax
		if lex.Word(tokens[n].Text) == 2 || begins && matches(tokens[n], "/") || begins && matches(tokens[n], "/=") {
			want = api.ErrSubset
		}
	}
	got, place, errno := parse.Parse(source(s))
	if place != at || errno != want || (len(got.Nodes) > 0) != (want == api.OK) {
		t.Fatalf("Parse(%q): %d nodes, error %d at %d; want error %d at %d", s, len(got.Nodes), errno, place, want, at)
	}
	return want == api.OK
}

// heights has, for each part, how few parts at least are in one another in it.
var heights = func() map[string]int {
	all := map[string]int{}
	for range rules {
		for part, ways := range rules {
			for _, way := range ways {
				height, ok := heightOf(all, way)
				if was, has := all[part]; ok && (!has || height < was) {
					all[part] = height
				}
			}
		}
	}
	return all
}()

func heightOf(all map[string]int, way []string) (int, bool) {
	height := 1
	for _, want := range way {
		if rules[want] == nil {
			continue
		}
		if all[want] == 0 {
			return 0, false
		}
		height = max(height, all[want]+1)
	}
	return height, true
}

// derived returns texts of random tokens that the grammar derives from a part.
// What it asks for is not looked at, so that not all of them are sources.
func derived(r *rand.Rand, part string, height int) []string {
	ways := [][]string{}
	for _, one := range rules[part] {
		if least, _ := heightOf(heights, one); least <= max(height, heights[part]) {
			ways = append(ways, one)
		}
	}
	list := []string{}
	for _, want := range ways[r.Intn(len(ways))] {
		switch {
		case rules[want] != nil:
			list = append(list, derived(r, want, height-1)...)
		case want != "fail" && want != "end" && !strings.Contains(want, "is:") && !strings.Contains(want, "no:"):
			list = append(list, written(r, want))
		}
	}
	return list
}

// written is a text of a token of a class.
func written(r *rand.Rand, want string) string {
	list, ok := classes[want]
	switch {
	case want == "name":
		list = "a b of"
	case want == "number":
		list = "0 7"
	case want == "bigint":
		list = "1n"
	case want == "string":
		list = "'a' \"\""
	case want == "any":
		list = "a if class"
	case !ok:
		return want
	}
	all := strings.Fields(list)
	return all[r.Intn(len(all))]
}

// alphabet has each token that is taken by itself, and some of the others.
var alphabet = strings.Fields("a b of 0 1n 'a' break catch const continue else false finally for function if in let new null return this throw true try typeof void while async class var " +
	"{ } ( ) [ ] ; , . ? : ~ < >= == !== + - * / % & | ^ ! && || ?? = += /= ++ -- << >>> =>")

// spaced joins tokens, now and then with a line end.
func spaced(r *rand.Rand, tokens []string, lineEnds int) string {
	s := ""
	for _, token := range tokens {
		if r.Intn(lineEnds) == 0 {
			s += "\n"
		}
		s += token + " "
	}
	return s
}

// changed is a list with one token less, more, or of another kind.
func changed(r *rand.Rand, tokens []string) []string {
	at, token := r.Intn(len(tokens)+1), alphabet[r.Intn(len(alphabet))]
	list := slices.Clone(tokens)
	switch {
	case at == len(tokens) || r.Intn(3) == 0:
		return slices.Insert(list, at, token)
	case r.Intn(2) == 0:
		return slices.Delete(list, at, at+1)
	}
	list[at] = token
	return list
}

// eachDerived calls check with so many random lists of tokens, none of which is long.
func eachDerived(r *rand.Rand, count int, check func(tokens []string)) {
	for count > 0 {
		if tokens := derived(r, "Program", 8+r.Intn(20)); len(tokens) <= 60 {
			check(tokens)
			count--
		}
	}
}

func TestP7_1_ByTheGrammar(t *testing.T) {
	r := rand.New(rand.NewSource(1))
	good, bad := 0, 0
	eachDerived(r, 2500, func(tokens []string) {
		for range 4 {
			if checkRecognized(t, spaced(r, tokens, 3+r.Intn(20))) {
				good++
			} else {
				bad++
			}
			tokens = changed(r, tokens)
		}
	})
	if good < 2000 || bad < 2000 {
		t.Errorf("%d sources are good, and %d are not", good, bad)
	}
}

// Behind many a beginning, each token is held against the grammar.
func TestP7_1_NextToken(t *testing.T) {
	r := rand.New(rand.NewSource(2))
	eachDerived(r, 150, func(tokens []string) {
		before := spaced(r, tokens[:r.Intn(len(tokens)+1)], 12)
		for _, token := range alphabet {
			checkRecognized(t, before+token)
			checkRecognized(t, before+"\n"+token)
			checkRecognized(t, before+token+" = a")
		}
	})
}

func TestP7_1_ShortSources(t *testing.T) {
	for _, first := range alphabet {
		checkRecognized(t, first)
		for _, second := range alphabet {
			checkRecognized(t, first+" "+second)
			checkRecognized(t, first+"\n"+second)
		}
	}
	// All short lists of those signs that mean several things.
	list := strings.Fields("a ( ) { } , : => ++ / ;")
	for code := range len(list) * len(list) * len(list) * len(list) {
		s := ""
		for range 4 {
			s += list[code%len(list)] + " "
			code /= len(list)
		}
		checkRecognized(t, s)
	}
}
