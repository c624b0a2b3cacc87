package tree

import (
	std "math/big"
	"regexp"
	"slices"
	"strconv"
	"strings"

	"rendezvous/api"
)

// The lists of the chapters, as they stand there.
const (
	words      = "break catch const continue else false finally for function if in let new null return this throw true try typeof void while arguments async await case class debugger default delete do enum eval export extends implements import instanceof interface package private protected public static super switch var with yield"
	unarySigns = "- + ! ~ typeof void"
	stepSigns  = "++ --"
	pairSigns  = "+ - * / % & | ^ << >> >>> < > <= >= == != === !== in"
	logicSigns = "&& || ??"
	setSigns   = "= += -= *= /= %= &= |= ^= <<= >>= >>>="
)

const (
	most    = api.MaxText
	maxKind = Index
)

// row is what the table of the chapter says of a kind: which names it may have,
// which kids, by classes of kinds, and how it is printed. In what is printed,
// @ is a kid as it is and & one that may need parentheses; behind them stands
// which kid, or * for all of them, a comma for a list, < for all but the last
// one, and $ for the last one.
type row struct{ names, kids, printed string }

var rows = map[int]row{
	1: {"", "S*", "@*"}, 2: {"", "", ";"}, 3: {"", "E", "( @0 ) ;"}, 4: {"", "S*", "{ @* }"},
	5: {"", "D+", "let @, ;"}, 6: {"", "D+", "const @, ;"}, 7: {"name", "E?", "NAME = ( @0 )"},
	8: {"", "Ess?", "if ( @0 ) @1 else @2"}, 9: {"", "Es", "while ( @0 ) @1"},
	10: {"", "(?:N|L|E)(?:N|E)(?:N|E)s", "for ( %0 ; %1 ; %2 ) @3"}, 11: {"", "", ""},
	12: {"none name", "", "break NAME ;"}, 13: {"none name", "", "continue NAME ;"},
	14: {"", "E?", "return ( @0 ) ;"}, 15: {"", "E", "throw ( @0 ) ;"},
	16: {"", "B(?:CN|CB|NB)", "try @0 @1 finally @2"}, 17: {"none name", "B", "catch ( NAME ) @0"},
	18: {"name", "s", "NAME : @0"}, 19: {"name", "P*B", "function NAME ( @< ) @$"}, 20: {"name", "", "NAME"},
	30: {"", "", "NUMBER"}, 31: {"", "", "BIG"}, 32: {"", "", "STRING"}, 33: {"name", "", "NAME"},
	34: {"", "", "true"}, 35: {"", "", "false"}, 36: {"", "", "null"}, 37: {"", "", "this"},
	38: {"", "E*", "[ &, ]"}, 39: {"", "R*", "{ @, }"}, 40: {"", "E", "STRING : &0"},
	41: {"none name", "P*B", "function NAME ( @< ) @$"}, 42: {"", "P*(?:B|E)", "( @< ) => @$"},
	43: {unarySigns, "E", "NAME &0"}, 44: {stepSigns, "T", "NAME @0"}, 45: {stepSigns, "T", "@0 NAME"},
	46: {pairSigns, "EE", "&0 NAME &1"}, 47: {logicSigns, "EE", "&0 NAME &1"}, 48: {"", "EEE", "&0 ? &1 : &2"},
	49: {setSigns, "TE", "@0 NAME &1"}, 50: {"", "EE*", "&0 ( &> )"}, 51: {"", "EE*", "new &0 ( &> )"},
	52: {"any", "E", "&0 . NAME"}, 53: {"", "EE", "&0 [ &1 ]"},
}

// letter stands for a kind in the texts that the expressions of kids are asked of.
func letter(kind int) string {
	if kind < 0 || kind > 200 {
		kind = 200
	}
	return string(rune(0x2000 + kind))
}

func class(kinds ...int) string {
	s := "["
	for _, kind := range kinds {
		s += letter(kind)
	}
	return s + "]"
}

// The kinds of a class, as the chapter lists them.
var (
	statementKinds  = []int{2, 3, 4, 5, 6, 8, 9, 10, 12, 13, 14, 15, 16, 18, 19}
	bodyKinds       = []int{2, 3, 4, 8, 9, 10, 12, 13, 14, 15, 16, 18}
	expressionKinds = []int{30, 31, 32, 33, 34, 35, 36, 37, 38, 39, 41, 42, 43, 44, 45, 46, 47, 48, 49, 50, 51, 52, 53}
	targetKinds     = []int{33, 52, 53}
)

// kidForms has an expression for each kind, which the letters of good kids fit.
var kidForms = func() map[int]*regexp.Regexp {
	classes := strings.NewReplacer("S", class(statementKinds...), "s", class(bodyKinds...), "E", class(expressionKinds...),
		"T", class(targetKinds...), "N", class(11), "L", class(5, 6), "D", class(7), "B", class(4), "C", class(17), "P", class(20), "R", class(40))
	forms := map[int]*regexp.Regexp{}
	for kind, r := range rows {
		forms[kind] = regexp.MustCompile("^(?:" + classes.Replace(r.kids) + ")$")
	}
	return forms
}()

var nameForm = regexp.MustCompile(`^[A-Za-z_$][A-Za-z0-9_$]*$`)

func mayBeName(list, s string) bool {
	isAny := nameForm.MatchString(s) && len(s) <= most
	isName := isAny && !slices.Contains(strings.Fields(words), s)
	switch list {
	case "":
		return s == ""
	case "name":
		return isName
	case "none name":
		return s == "" || isName
	case "any":
		return isAny
	}
	return slices.Contains(strings.Fields(list), s)
}

// referenceMay tells whether a tree is good: its nodes one after another, and
// the order in which they are met beside the order in which they lie.
func referenceMay(t api.Tree) bool {
	met, deepest := []int{}, 0
	var meet func(n, nest int) bool
	meet = func(n, nest int) bool {
		if n < 0 || n >= len(t.Nodes) || slices.Contains(met, n) || nest > 10*api.MaxNest {
			return false
		}
		met, deepest = append(met, n), max(deepest, nest)
		return !slices.ContainsFunc(t.Nodes[n].Kids, func(kid int) bool { return !meet(kid, nest+1) })
	}
	if len(t.Nodes) == 0 || !meet(0, 1) || len(met) != len(t.Nodes) || !slices.IsSorted(met) || deepest > api.MaxNest || len(met) > api.MaxNodes {
		return false
	}
	for n, node := range t.Nodes {
		if (n == 0) != (node.Kind == 1) || !referenceFits(t, node) {
			return false
		}
	}
	return true
}

func referenceFits(t api.Tree, node api.Node) bool {
	r, ok := rows[node.Kind]
	if !ok || !mayBeName(r.names, node.Name) {
		return false
	}
	kids := ""
	for _, kid := range node.Kids {
		kids += letter(t.Nodes[kid].Kind)
	}
	if !kidForms[node.Kind].MatchString(kids) || node.Kind == 8 && len(node.Kids) == 3 && endsShort(t, node.Kids[1]) {
		return false
	}
	n, b := node.N, node.B
	hasStr, hasNum, hasBig := strings.Contains(r.printed, "STRING"), r.printed == "NUMBER", r.printed == "BIG"
	switch {
	case len(node.Str) > 0 && !hasStr || len(node.Str) > most:
		return false
	case hasNum && (n.Kind != 0 || n.N < 0 || n.N >= 1<<53), !hasNum && (n.Kind != 0 || n.N != 0):
		return false
	case b.Neg || !hasBig && len(b.Mag) > 0 || len(b.Mag) > 8 || len(b.Mag) > 0 && b.Mag[len(b.Mag)-1] == 0:
		return false
	}
	return true
}

// endsShort tells whether a statement ends with an If that has only one S.
func endsShort(t api.Tree, n int) bool {
	kids := t.Nodes[n].Kids
	switch t.Nodes[n].Kind {
	case 8:
		return len(kids) == 2 || len(kids) == 3 && endsShort(t, kids[2])
	case 9, 10, 18:
		return len(kids) > 0 && endsShort(t, kids[len(kids)-1])
	}
	return false
}

func referenceNest(t api.Tree, n int) int {
	nest := 0
	for _, kid := range t.Nodes[n].Kids {
		nest = max(nest, referenceNest(t, kid))
	}
	return nest + 1
}

// printedBy joins the tokens of the reference.
func printedBy(t api.Tree) string { return strings.Join(referencePrint(t, 0), " ") }

// referencePrint has the tokens of a node of a good tree, by what the table says.
func referencePrint(t api.Tree, n int) []string {
	node := t.Nodes[n]
	list := []string{}
	for _, part := range strings.Fields(shortened(t, node)) {
		switch {
		case part == "NAME":
			list = append(list, node.Name)
		case part == "NUMBER":
			list = append(list, strconv.Itoa(node.N.N))
		case part == "BIG":
			list = append(list, decimal(node.B)+"n")
		case part == "STRING":
			list = append(list, quotedUnits(node.Str))
		case strings.ContainsAny(part[:1], "@&%"):
			list = append(list, referenceKids(t, node, part)...)
		default:
			list = append(list, part)
		}
	}
	return list
}

// shortened leaves out of a row what is not printed where a name or a kid is missing.
func shortened(t api.Tree, node api.Node) string {
	r := rows[node.Kind]
	part := ""
	switch {
	case node.Kind == 8 && len(node.Kids) == 2:
		part = "else @2"
	case node.Kind == 7 && len(node.Kids) == 0:
		part = "= ( @0 )"
	case node.Kind == 14 && len(node.Kids) == 0:
		part = "( @0 )"
	case node.Kind == 16 && t.Nodes[node.Kids[2]].Kind == 11:
		part = "finally @2"
	case node.Kind == 17 && node.Name == "":
		part = "( NAME )"
	case node.Name == "":
		part = "NAME"
	}
	return strings.Replace(r.printed, part, "", 1)
}

func referenceKids(t api.Tree, node api.Node, part string) []string {
	chosen, last := node.Kids, len(node.Kids)-1
	switch c := part[1]; c {
	case '0', '1', '2', '3':
		chosen = node.Kids[c-'0' : c-'0'+1]
	case '<':
		chosen = node.Kids[:last]
	case '>':
		chosen = node.Kids[1:]
	case '$':
		chosen = node.Kids[last:]
	}
	list := []string{}
	for i, kid := range chosen {
		one, kind := referencePrint(t, kid), t.Nodes[kid].Kind
		isArrowE := node.Kind == 42 && part == "@$" && kind != 4
		switch {
		case part[0] == '&' && kind > 37, part[0] == '%' && kind >= 30, isArrowE:
			one = slices.Concat([]string{"("}, one, []string{")"})
		case part[0] == '%' && (kind == 5 || kind == 6):
			one = one[:len(one)-1]
		}
		if i > 0 && part[1] != '*' {
			list = append(list, ",")
		}
		list = append(list, one...)
	}
	return list
}

func decimal(b api.Big) string {
	n := new(std.Int)
	for i := len(b.Mag) - 1; i >= 0; i-- {
		n.Lsh(n, 32).Add(n, std.NewInt(int64(b.Mag[i])))
	}
	return n.String()
}

func quotedUnits(u []uint16) string {
	s := ""
	for _, unit := range u {
		if strings.ContainsRune(" !#$%&'()*+,-./0123456789:;<=>?@ABCDEFGHIJKLMNOPQRSTUVWXYZ[]^_`abcdefghijklmnopqrstuvwxyz{|}~", rune(unit)) && unit < 128 {
			s += string(rune(unit))
			continue
		}
		s += `\u` + strconv.FormatInt(0x10000+int64(unit), 16)[1:]
	}
	return `"` + s + `"`
}
