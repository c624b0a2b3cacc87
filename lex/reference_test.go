package lex

import (
	std "math/big"
	"regexp"
	"slices"
	"strconv"
	"strings"

	"rendezvous/api"
)

// The lists of the chapter, as they stand there.
const (
	reserved         = "break catch const continue else false finally for function if in let new null return this throw true try typeof void while"
	unsupported      = "arguments async await case class debugger default delete do enum eval export extends implements import instanceof interface package private protected public static super switch var with yield"
	signs            = "{ } ( ) [ ] ; , . ? : ~ < > <= >= == != === !== + - * / % & | ^ ! && || ?? = += -= *= /= %= &= |= ^= <<= >>= >>>= ++ -- << >> >>> =>"
	unsupportedSigns = "... ?. ** **= &&= ||= ??="
)

// listed tells in which of two lists s is: 1, 2, or 0 for none.
func listed(s, one, two string) int {
	switch {
	case slices.Contains(strings.Fields(one), s):
		return 1
	case slices.Contains(strings.Fields(two), s):
		return 2
	}
	return 0
}

// result is what Tokens answers.
type result struct {
	tokens []api.Token
	at     int
	errno  api.Errno
}

func lexed(u []uint16) result {
	tokens, at, errno := Tokens(u)
	return result{tokens, at, errno}
}

func (r result) is(other result) bool {
	return slices.EqualFunc(r.tokens, other.tokens, alike) && r.at == other.at && r.errno == other.errno
}

// alike holds tokens against each other field by field.
func alike(a, b api.Token) bool {
	return a.Kind == b.Kind && a.Text == b.Text && slices.Equal(a.Str, b.Str) && a.N == b.N &&
		a.B.Neg == b.B.Neg && slices.Equal(a.B.Mag, b.B.Mag) && a.At == b.At && a.Nl == b.Nl
}

// The reference reads by expressions, of which the first one that fits counts;
// its rules are named as the cases of the promise.
var (
	tokenRules = rules([][2]string{
		{"skip", `[\t\v\f ]`},
		{"line", `[\n\r]`},
		{"comment", `//[^\n\r]*|(?s:/\*.*?\*/)`},
		{"syntax", `/\*`},
		{"subset", `[A-Za-z_$][A-Za-z0-9_$]*\\`},
		{"word", `[A-Za-z_$][A-Za-z0-9_$]*`},
		{"syntax", `0[0-9]`},
		{"big", `[0-9]+n[A-Za-z0-9_$]?`},
		{"subset", `[0-9]+[.eE_]|0[xXoObB]`},
		{"syntax", `[0-9]+[A-Za-z$]`},
		{"number", `[0-9]+`},
		{"quote", `['"]`},
		{"subset", `\.[0-9]`},
		{"choice", `\?\.[0-9]`},
		{"subset", anyOf(unsupportedSigns)},
		{"sign", anyOf(signs)},
		{"shebang", `#!`},
		{"subset", "[\\x{80}-\\x{10FFFF}`\\\\]"},
		{"syntax", `(?s:.)`},
	})
	stringRules = rules([][2]string{
		{"quote", `['"]`},
		{"syntax", `[\n\r]`},
		{"itself", `(?s:[^\\])`},
		{"subset", `\\(?:[\n\r\x{2028}\x{2029}]|u\{)`},
		{"syntax", `\\(?:0[0-9]|[1-9])`},
		{"zero", `\\0`},
		{"code", `\\(?:x[0-9a-fA-F]{2}|u[0-9a-fA-F]{4})`},
		{"syntax", `\\(?:x|u|$)`},
		{"escaped", `\\(?s:.)`},
	})
)

// anyOf has an expression for each sign of a list, the longest first. No
// supported sign begins with an unsupported one, so those may be asked first.
func anyOf(list string) string {
	all := strings.Fields(list)
	slices.SortStableFunc(all, func(a, b string) int { return len(b) - len(a) })
	for i := range all {
		all[i] = regexp.QuoteMeta(all[i])
	}
	return strings.Join(all, "|")
}

type ruleSet struct {
	form  *regexp.Regexp
	names []string
}

func rules(list [][2]string) ruleSet {
	set, forms := ruleSet{}, []string{}
	for _, r := range list {
		set.names = append(set.names, r[0])
		forms = append(forms, "("+r[1]+")")
	}
	set.form = regexp.MustCompile("^(?:" + strings.Join(forms, "|") + ")")
	return set
}

// first returns the name of the rule that fits, and what of s it fits.
func (set ruleSet) first(s string) (name, fit string) {
	places := set.form.FindStringSubmatchIndex(s)
	for i, name := range set.names {
		if places != nil && places[2*i+2] >= 0 {
			return name, s[:places[1]]
		}
	}
	return "syntax", ""
}

// spelled has one character for each unit; a surrogate, which is none, is moved
// to the last plane.
func spelled(u []uint16) string {
	runes := make([]rune, len(u))
	for i, unit := range u {
		runes[i] = rune(unit)
		if unit >= 0xD800 && unit <= 0xDFFF {
			runes[i] += 0x100000
		}
	}
	return string(runes)
}

func unspelled(s string) []uint16 {
	u := []uint16{}
	for _, r := range s {
		u = append(u, uint16(r))
	}
	return u
}

// reference is what Tokens has to answer for units that are not too many.
func reference(u []uint16) result {
	s, tokens, at, nl := spelled(u), []api.Token{}, 0, false
	for s != "" {
		name, fit := tokenRules.first(s)
		errno := api.OK
		if name == "comment" && strings.ContainsAny(fit, "\u2028\u2029") {
			errno = api.ErrSubset
		}
		if name == "skip" || name == "line" || name == "comment" {
			nl = nl || strings.ContainsAny(fit, "\n\r")
		} else {
			var token api.Token
			token, fit, errno = reading(name, fit, s, at)
			token.At, token.Nl = at, nl
			tokens, nl = append(tokens, token), false
		}
		if errno != api.OK {
			return result{at: at, errno: errno}
		}
		at += len([]rune(fit))
		s = s[len(fit):]
	}
	return result{tokens: append(tokens, api.Token{Kind: api.TEnd, At: at, Nl: nl})}
}

// reading is what a rule makes of s, which stands at a place; it also returns
// what of s belongs to the token.
func reading(name, fit, s string, at int) (api.Token, string, api.Errno) {
	switch name {
	case "subset":
		return api.Token{}, fit, api.ErrSubset
	case "shebang":
		if at == 0 {
			return api.Token{}, fit, api.ErrSubset
		}
	case "word":
		if listed(fit, reserved, unsupported) > 0 {
			return api.Token{Kind: api.TWord, Text: fit}, fit, api.OK
		}
		return api.Token{Kind: api.TName, Text: fit}, fit, api.OK
	case "big":
		return bigOf(fit)
	case "number":
		n, err := strconv.ParseUint(fit, 10, 53)
		if err != nil {
			return api.Token{}, fit, api.ErrSubset
		}
		return api.Token{Kind: api.TNumber, N: api.Num{N: int(n)}}, fit, api.OK
	case "quote":
		return stringOf(s)
	case "choice":
		return api.Token{Kind: api.TSign, Text: "?"}, "?", api.OK
	case "sign":
		return api.Token{Kind: api.TSign, Text: fit}, fit, api.OK
	}
	return api.Token{}, fit, api.ErrSyntax
}

func bigOf(fit string) (api.Token, string, api.Errno) {
	digits, behind, _ := strings.Cut(fit, "n")
	n, _ := new(std.Int).SetString(digits, 10)
	switch {
	case n.BitLen() > 256:
		return api.Token{}, fit, api.ErrSubset
	case behind != "":
		return api.Token{}, fit, api.ErrSyntax
	}
	token := api.Token{Kind: api.TBig}
	for ; n.Sign() > 0; n.Rsh(n, 32) {
		token.B.Mag = append(token.B.Mag, uint32(n.Uint64()))
	}
	return token, fit, api.OK
}

func stringOf(s string) (api.Token, string, api.Errno) {
	token, rest := api.Token{Kind: api.TString}, s[1:]
	for {
		name, fit := stringRules.first(rest)
		rest = rest[len(fit):]
		switch name {
		case "quote":
			if fit == s[:1] {
				return token, s[:len(s)-len(rest)], api.OK
			}
			token.Str = append(token.Str, unspelled(fit)...)
		case "itself":
			token.Str = append(token.Str, unspelled(fit)...)
		case "zero":
			token.Str = append(token.Str, 0)
		case "code":
			n, _ := strconv.ParseUint(fit[2:], 16, 16)
			token.Str = append(token.Str, uint16(n))
		case "escaped":
			if i := strings.Index("ntrbvf", fit[1:]); i >= 0 {
				fit = `\` + string("\n\t\r\b\v\f"[i])
			}
			token.Str = append(token.Str, unspelled(fit[1:])...)
		case "subset":
			return api.Token{}, s, api.ErrSubset
		default:
			return api.Token{}, s, api.ErrSyntax
		}
	}
}
