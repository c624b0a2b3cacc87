package lex

import (
	"math/rand"
	"slices"
	"strings"
	"testing"
	"unicode/utf16"

	"rendezvous/api"
)

const most = api.MaxText

// source has the units of a text.
func source(s string) []uint16 { return utf16.Encode([]rune(s)) }

// Tokens without a place, to be laid out by places.
func aWord(s string) api.Token { return api.Token{Kind: api.TWord, Text: s} }
func aName(s string) api.Token { return api.Token{Kind: api.TName, Text: s} }
func aSign(s string) api.Token { return api.Token{Kind: api.TSign, Text: s} }
func anEnd() api.Token         { return api.Token{Kind: api.TEnd} }
func aNumber(n int) api.Token  { return api.Token{Kind: api.TNumber, N: api.Num{N: n}} }
func aBigInt(mag ...uint32) api.Token {
	return api.Token{Kind: api.TBig, B: api.Big{Mag: mag}}
}
func aString(units ...uint16) api.Token { return api.Token{Kind: api.TString, Str: units} }

// at lays a token out; nl says that a line ends ahead of it.
func at(place int, t api.Token) api.Token {
	t.At = place
	return t
}

func nl(t api.Token) api.Token {
	t.Nl = true
	return t
}

// checkTokens holds the tokens of a source against a list.
func checkTokens(t *testing.T, s string, want ...api.Token) {
	t.Helper()
	if got := lexed(source(s)); !got.is(result{tokens: want}) {
		t.Errorf("Tokens(%q) = %+v", s, got)
	}
}

// checkOne holds a source of one token against it.
func checkOne(t *testing.T, s string, want api.Token) {
	t.Helper()
	checkTokens(t, s, want, at(len(source(s)), anEnd()))
}

func checkError(t *testing.T, s string, place int, errno api.Errno) {
	t.Helper()
	if got := lexed(source(s)); !got.is(result{at: place, errno: errno}) {
		t.Errorf("Tokens(%.60q) = %+v; want error %d at %d", s, got, errno, place)
	}
}

// checkAll holds sources that end in an error at their first unit, alone and
// behind others, where the place moves on with them.
func checkAll(t *testing.T, errno api.Errno, sources ...string) {
	t.Helper()
	for _, s := range sources {
		for _, before := range []string{"", " ", "a ", "/*é*/", "'😀' + ", "x\n"} {
			checkError(t, before+s, len(source(before)), errno)
		}
	}
}

// checkReference holds Tokens against the reference.
func checkReference(t *testing.T, u []uint16) {
	t.Helper()
	if got, want := lexed(u), reference(u); !got.is(want) {
		t.Fatalf("Tokens(%q) = %+v; want %+v", spelled(u), got, want)
	}
}

// eachSource calls check for all sources of so many units of an alphabet, and for all shorter ones.
func eachSource(alphabet string, size int, check func(s string)) {
	check("")
	if size == 0 {
		return
	}
	for _, r := range alphabet {
		eachSource(alphabet, size-1, func(s string) {
			if s == "" || size > 1 {
				check(string(r) + s)
			}
		})
	}
}

func TestP5_1_Word(t *testing.T) {
	for kind, list := range map[int]string{1: reserved, 2: unsupported} {
		for _, s := range strings.Fields(list) {
			if Word(s) != kind {
				t.Errorf("Word(%q) = %d", s, Word(s))
			}
		}
	}
	others := []string{"", " ", "of", "get", "set", "undefined", "NaN", "Infinity", "Atomics", "é", "\xFF", "\x00", "constructor", "{", "0"}
	for _, s := range strings.Fields(reserved + " " + unsupported) {
		others = append(others, strings.ToUpper(s), strings.ToUpper(s[:1])+s[1:], s+" ", " "+s, s+s, s+"s", s+"\x00", "_"+s, s[1:], s[:len(s)-1])
	}
	for _, s := range others {
		if want := listed(s, reserved, unsupported); Word(s) != want {
			t.Errorf("Word(%q) = %d", s, Word(s))
		}
	}
}

func TestP5_1_Sign(t *testing.T) {
	kinds := map[string]int{}
	for _, s := range strings.Fields(signs) {
		kinds[s] = 1
	}
	for _, s := range strings.Fields(unsupportedSigns) {
		kinds[s] = 2
	}
	if len(kinds) != 57 {
		t.Fatalf("%d signs are listed", len(kinds))
	}
	eachSource("{}()[];,.?:~<>=!+-*/%&|^#@a ", 4, func(s string) {
		if Sign(s) != kinds[s] {
			t.Errorf("Sign(%q) = %d", s, Sign(s))
		}
	})
	for _, s := range []string{">>>>=", ">>>=>", "....", "a+", "\x00", "\xFF", "é", "if", "`", "\\", "'", "\""} {
		if Sign(s) != 0 {
			t.Errorf("Sign(%q) = %d", s, Sign(s))
		}
	}
}

const (
	letters = "abcdefghijklmnopqrstuvwxyzABCDEFGHIJKLMNOPQRSTUVWXYZ_$"
	parts   = letters + "0123456789"
)

func TestP5_1_Name(t *testing.T) {
	for a := range 256 {
		first := string([]byte{byte(a)})
		if Name(first) != strings.Contains(letters, first) {
			t.Errorf("Name(%q) = %v", first, Name(first))
		}
		for b := range 256 {
			second := string([]byte{byte(b)})
			want := strings.Contains(letters, first) && strings.Contains(parts, second) && !strings.Contains(" if in do ", " "+first+second+" ")
			if Name(first+second) != want {
				t.Errorf("Name(%q) = %v", first+second, Name(first+second))
			}
			if s := "a" + second + "z"; Name(s) != strings.Contains(parts, second) {
				t.Errorf("Name(%q) = %v", s, Name(s))
			}
		}
	}
	for _, s := range strings.Fields(reserved + " " + unsupported) {
		if Name(s) || !Name(s+"0") || !Name("$"+s) || !Name(strings.ToUpper(s)) {
			t.Errorf("Name(%q) = %v, or a name that is like it is none", s, Name(s))
		}
	}
	if Name("") || !Name(letters) || !Name(strings.Repeat("a9", most)) || Name(strings.Repeat("a", most)+"é") || Name("a b") || Name("a.b") || Name("é") {
		t.Error("Name of texts of several bytes")
	}
}

func TestP5_2_Nothing(t *testing.T) {
	if got := lexed(nil); !got.is(result{tokens: []api.Token{anEnd()}}) {
		t.Errorf("Tokens(nil) = %+v", got)
	}
	checkTokens(t, "", anEnd())
	checkTokens(t, "  ", at(2, anEnd()))
	checkTokens(t, "\n", nl(at(1, anEnd())))
	checkTokens(t, "//", at(2, anEnd()))
	checkTokens(t, "/**/", at(4, anEnd()))
}

func TestP5_2_TooLong(t *testing.T) {
	for _, s := range []string{"a", " ", "@", "é", "'", "/*", "9"} {
		checkError(t, strings.Repeat(s, most+1), 0, api.ErrLong)
		checkError(t, " "+strings.Repeat(s, 2*most), 0, api.ErrLong)
	}
	checkOne(t, strings.Repeat("a", most), aName(strings.Repeat("a", most)))
	checkTokens(t, strings.Repeat("\n", most), nl(at(most, anEnd())))
	// Units count, not characters.
	checkOne(t, "'"+strings.Repeat("😀", most/2-1)+"'", aString(source(strings.Repeat("😀", most/2-1))...))
	checkError(t, "'"+strings.Repeat("😀", most/2-1)+"'"+" ", 0, api.ErrLong)
	// What stands behind the length of an argument does not count.
	if got := lexed(make([]uint16, most+1)[:0]); !got.is(result{tokens: []api.Token{anEnd()}}) {
		t.Errorf("Tokens of a part: %+v", got)
	}
	if got := lexed(source("ab\\")[:2]); !got.is(result{tokens: []api.Token{aName("ab"), at(2, anEnd())}}) {
		t.Errorf("Tokens of a part: %+v", got)
	}
	if got := lexed(source("'a'")[:2]); !got.is(result{errno: api.ErrSyntax}) {
		t.Errorf("Tokens of a part: %+v", got)
	}
}

func TestP5_2_BlanksAndLineEnds(t *testing.T) {
	checkTokens(t, "\t\v\f a\t\v\f b", at(4, aName("a")), at(9, aName("b")), at(10, anEnd()))
	for _, s := range []string{"\n", "\r", "\r\n", " \n", "\n ", "/**/\n", "\n/**/", "//\n", "//\r", "//a\n//b\n", "\n\n", "/*\n*/", "/*\r*/", " /* a \n b */ ", "/*\n*//**/", "/**//*\n*/", "\n/*\n*/ // a\r"} {
		n := len(s)
		checkTokens(t, "a"+s+"b c", aName("a"), nl(at(1+n, aName("b"))), at(3+n, aName("c")), at(4+n, anEnd()))
		checkTokens(t, s+"b"+s, nl(at(n, aName("b"))), nl(at(1+2*n, anEnd())))
	}
	for _, s := range []string{" ", "\t\v\f", "/**/", " /* a */ ", "/*//*/"} {
		n := len(s)
		checkTokens(t, "a"+s+"b\nc", aName("a"), at(1+n, aName("b")), nl(at(3+n, aName("c"))), at(4+n, anEnd()))
	}
}

func TestP5_2_Comments(t *testing.T) {
	checkTokens(t, "a // b 'c \\ é @ /* d\nb", aName("a"), nl(at(21, aName("b"))), at(22, anEnd()))
	checkTokens(t, "a//b", aName("a"), at(4, anEnd()))
	checkTokens(t, "///*", at(4, anEnd()))
	checkTokens(t, "a /* .. \n .. */ b", aName("a"), nl(at(16, aName("b"))), at(17, anEnd()))
	checkTokens(t, "/*/ */", at(6, anEnd()))
	checkTokens(t, "/***/ /* * / ** */a", at(18, aName("a")), at(19, anEnd()))
	// The first mark of an end counts, and there are no comments in one another.
	checkTokens(t, "/* /* */ a", at(9, aName("a")), at(10, anEnd()))
	checkTokens(t, "/**/*/**/2", at(4, aSign("*")), at(9, aNumber(2)), at(10, anEnd()))
	checkTokens(t, "/*é😀'@*/1", at(9, aNumber(1)), at(10, anEnd()))
	checkTokens(t, "a/ /b", aName("a"), at(1, aSign("/")), at(3, aSign("/")), at(4, aName("b")), at(5, anEnd()))
	checkAll(t, api.ErrSyntax, "/*", "/*/", "/* a", "/* * /", "/* \n", "/*\u2028", "/* \u2029 *")
	checkAll(t, api.ErrSubset, "//\u2028", "// a \u2029 b", "//\u2028\n", "/*\u2028*/", "/* \u2029 */ a", "/*\n\u2028\n*/", "// a \u2028 @\n", "/*\u2028*/ @")
	checkTokens(t, "//\u2027\u202A\n/*\u2027\u202A*/", nl(at(11, anEnd())))
	checkError(t, "a // \n \u2028", 7, api.ErrSubset)
}

func TestP5_2_NamesAndWords(t *testing.T) {
	for _, s := range strings.Fields(reserved + " " + unsupported) {
		checkOne(t, s, aWord(s))
		checkOne(t, s+"_", aName(s+"_"))
		checkOne(t, "$"+s, aName("$"+s))
		checkOne(t, strings.ToUpper(s), aName(strings.ToUpper(s)))
	}
	checkOne(t, letters+parts, aName(letters+parts))
	checkTokens(t, "let of", aWord("let"), at(4, aName("of")), at(6, anEnd()))
	checkTokens(t, "a.if", aName("a"), at(1, aSign(".")), at(2, aWord("if")), at(4, anEnd()))
	checkAll(t, api.ErrSubset, `a\`, `a9$_\u0061`, `if\u0061`, `class\`)
	checkError(t, `a \`, 2, api.ErrSubset)
	checkError(t, "xé", 1, api.ErrSubset)
	checkError(t, "x\u2028", 1, api.ErrSubset)
	checkError(t, "x#", 1, api.ErrSyntax)
}

func TestP5_2_Numbers(t *testing.T) {
	for s, n := range map[string]int{"0": 0, "7": 7, "10": 10, "4294967296": 1 << 32, "9007199254740990": api.MaxSafe - 1, "9007199254740991": api.MaxSafe} {
		checkOne(t, s, aNumber(n))
		checkTokens(t, s+" .a", aNumber(n), at(len(s)+1, aSign(".")), at(len(s)+2, aName("a")), at(len(s)+3, anEnd()))
		checkTokens(t, s+"+1", aNumber(n), at(len(s), aSign("+")), at(len(s)+1, aNumber(1)), at(len(s)+2, anEnd()))
	}
	checkTokens(t, "-0", aSign("-"), at(1, aNumber(0)), at(2, anEnd()))
	checkAll(t, api.ErrSyntax, "00", "007", "01", "0000", "08.5", "00e1", "00x", "00n", "01_0", "00\\", "0"+strings.Repeat("9", 80), "00"+strings.Repeat("9", 80)+"n")
	checkAll(t, api.ErrSubset, "1.5", "1.", "1..a", "0.", "0.5", "1e", "1e5", "1E", "0e", "0E1", "1_0", "1_", "0_", "1_n", "1e5n", "0x", "0x1F", "0X1", "0o7", "0O7", "0b1", "0B", "0b1n", "0xg")
	checkAll(t, api.ErrSyntax, "1x", "1X1", "1o", "1O", "1b", "1B", "10x1", "0z", "0a", "0$", "1$", "1a", "3in", "1N", "0N", "5f")
	checkAll(t, api.ErrSubset, "9007199254740992", "10000000000000000", "18446744073709551616", "9223372036854775808", strings.Repeat("9", 400), "9007199254740992 @", strings.Repeat("9", 80)+".", strings.Repeat("9", 80)+"e")
	checkAll(t, api.ErrSyntax, "9007199254740992a", strings.Repeat("9", 80)+"$")
	checkError(t, `1\u0061`, 1, api.ErrSubset)
	checkError(t, `1é`, 1, api.ErrSubset)
	checkError(t, `1 .5`, 2, api.ErrSubset)
}

// highest is 2^256 - 1, the greatest number of MaxLimbs limbs; over is one more.
const (
	highest = "115792089237316195423570985008687907853269984665640564039457584007913129639935"
	over    = "115792089237316195423570985008687907853269984665640564039457584007913129639936"
)

func TestP5_2_BigInts(t *testing.T) {
	const full = 1<<32 - 1
	for s, mag := range map[string][]uint32{"0n": nil, "1n": {1}, "12n": {12}, "9007199254740992n": {0, 1 << 21}, "18446744073709551616n": {0, 0, 1}, highest + "n": {full, full, full, full, full, full, full, full}} {
		checkOne(t, s, aBigInt(mag...))
		checkTokens(t, s+".a", aBigInt(mag...), at(len(s), aSign(".")), at(len(s)+1, aName("a")), at(len(s)+2, anEnd()))
	}
	checkAll(t, api.ErrSubset, over+"n", over+"na", over+"n1", strings.Repeat("9", 400)+"n", strings.Repeat("9", 80)+"n$")
	checkAll(t, api.ErrSyntax, "1n2", "1na", "1nn", "0n0", "0nx", "1n_", "1n$", "1ne", highest+"na", highest+"n0")
	checkError(t, "1n.5", 2, api.ErrSubset)
	checkError(t, `1n\`, 2, api.ErrSubset)
	checkError(t, "1n 007", 3, api.ErrSyntax)
	checkTokens(t, "1 n", aNumber(1), at(2, aName("n")), at(3, anEnd()))
}

func TestP5_2_Strings(t *testing.T) {
	for s, units := range map[string][]uint16{
		`''`:                               nil,
		`""`:                               nil,
		`'a"b'`:                            {'a', '"', 'b'},
		`"a'b"`:                            {'a', '\'', 'b'},
		"'é😀//*`\x00\t\u2028\u2029\uFEFF'": {0xE9, 0xD83D, 0xDE00, '/', '/', '*', '`', 0, 9, 0x2028, 0x2029, 0xFEFF},
		`'\n\t\r\b\v\f'`:                   {10, 9, 13, 8, 11, 12},
		`"\0"`:                             {0},
		`"\0a\0\x30"`:                      {0, 'a', 0, '0'},
		`"\x00\x4a\xFf\xE9"`:               {0, 0x4A, 0xFF, 0xE9},
		`"\u0000\u00e9\uD83D\uFFFF\uabCD"`: {0, 0xE9, 0xD83D, 0xFFFF, 0xABCD},
		`"\u00e90\x410"`:                   {0xE9, '0', 0x41, '0'},
		`"\'\"\\\a\N\q\ \é\/"`:             {'\'', '"', '\\', 'a', 'N', 'q', ' ', 0xE9, '/'},
		`'\''`:                             {'\''},
		`'\\'`:                             {'\\'},
		`"\X\U\{u{"`:                       {'X', 'U', '{', 'u', '{'},
	} {
		checkOne(t, s, aString(units...))
	}
	checkTokens(t, `'a''b'"c"`, aString('a'), at(3, aString('b')), at(6, aString('c')), at(9, anEnd()))
	checkTokens(t, `'\0'8`, aString(0), at(4, aNumber(8)), at(5, anEnd()))
}

func TestP5_2_StringsThatAreNone(t *testing.T) {
	checkAll(t, api.ErrSyntax, `'`, `"`, `'a`, `'a"`, `"a'`, `'a\'`, `'\`, `"\\\"`, "'a\nb'", "'\r'", "'a\n", `'\0`, `'\x41`)
	checkAll(t, api.ErrSyntax, `'\1'`, `'\7'`, `'\8'`, `'\9'`, `'\00'`, `'\08'`, `'\09'`, `'\01'`)
	checkAll(t, api.ErrSyntax, `'\x'`, `'\x4'`, `'\x4g'`, `'\xg4'`, `'\x4`, `'\u'`, `'\u0'`, `'\u00e'`, `'\u00eg'`, `'\ug000'`, `'\u 0041'`, `'\u00e`, `'\x{41}'`, `'\u0{41}'`)
	checkAll(t, api.ErrSubset, "'\\\n'", "'\\\r'", "'\\\r\n'", "'\\\u2028'", "'\\\u2029'", `'\u{41}'`, `'\u{'`, `'\u{`, "'\\\n", `"\u{110000}"`)
	// Of several errors in one string the first one counts.
	checkAll(t, api.ErrSubset, `'\u{41}\1'`, "'\\\n\n'", `'\u{\x'`)
	checkAll(t, api.ErrSyntax, `'\1\u{41}'`, "'\n\\\n'", `'\x\u{41}`)
	checkAll(t, api.ErrSubset, "'a\\u{41}")
}

func TestP5_2_Dots(t *testing.T) {
	checkAll(t, api.ErrSubset, ".5", ".0", ".5.5", ".1a")
	checkTokens(t, ".a", aSign("."), at(1, aName("a")), at(2, anEnd()))
	checkTokens(t, ". 5", aSign("."), at(2, aNumber(5)), at(3, anEnd()))
	checkTokens(t, "..", aSign("."), at(1, aSign(".")), at(2, anEnd()))
	checkError(t, "..5", 1, api.ErrSubset)
	checkError(t, "a.5", 1, api.ErrSubset)
}

func TestP5_2_Punctuators(t *testing.T) {
	for _, s := range strings.Fields(signs) {
		checkOne(t, s, aSign(s))
		checkTokens(t, s+" "+s, aSign(s), at(len(s)+1, aSign(s)), at(2*len(s)+1, anEnd()))
	}
	checkAll(t, api.ErrSubset, strings.Fields(unsupportedSigns)...)
	checkAll(t, api.ErrSubset, "...a", "...5", "....", "?.a", "?.", "?. 5", "?..5", "**=2", "***", "&&=a", "||=a", "??=a")
	checkTokens(t, "a+++b", aName("a"), at(1, aSign("++")), at(3, aSign("+")), at(4, aName("b")), at(5, anEnd()))
	checkTokens(t, ">>>>=>=>", aSign(">>>"), at(3, aSign(">=")), at(5, aSign(">=")), at(7, aSign(">")), at(8, anEnd()))
	checkTokens(t, "====", aSign("==="), at(3, aSign("=")), at(4, anEnd()))
	checkTokens(t, "!===!", aSign("!=="), at(3, aSign("=")), at(4, aSign("!")), at(5, anEnd()))
	checkTokens(t, "<!--", aSign("<"), at(1, aSign("!")), at(2, aSign("--")), at(4, anEnd()))
	checkTokens(t, "&&&|||", aSign("&&"), at(2, aSign("&")), at(3, aSign("||")), at(5, aSign("|")), at(6, anEnd()))
	checkTokens(t, "? .a", aSign("?"), at(2, aSign(".")), at(3, aName("a")), at(4, anEnd()))
	checkTokens(t, "??.a", aSign("??"), at(2, aSign(".")), at(3, aName("a")), at(4, anEnd()))
	// With a digit, the dot is that of a number, which is an error of its own.
	for s, place := range map[string]int{"a?.5:1": 2, "?.0": 1, "??.5": 2, "???.5": 3} {
		checkError(t, s, place, api.ErrSubset)
	}
	checkError(t, "a?.b", 1, api.ErrSubset)
	checkError(t, "a ??= b", 2, api.ErrSubset)
}

func TestP5_2_OtherUnits(t *testing.T) {
	checkAll(t, api.ErrSubset, "`", "`a`", `\`, `\u0061`, "é", "\u0080", "\u00A0", "\u2028", "\u2029", "\uFEFF", "😀", "\uFFFF")
	checkAll(t, api.ErrSyntax, "@", "#", "#a", "# !", "\x00", "\x01", "\x08", "\x0E", "\x1F", "\x7F")
	checkError(t, "#!", 0, api.ErrSubset)
	checkError(t, "#!/bin/x\n1", 0, api.ErrSubset)
	checkError(t, " #!", 1, api.ErrSyntax)
	checkError(t, "\n#!", 1, api.ErrSyntax)
	checkError(t, "/**/#!", 4, api.ErrSyntax)
	checkError(t, "a#!", 1, api.ErrSyntax)
	for _, unit := range []uint16{0xD800, 0xDBFF, 0xDC00, 0xDFFF} {
		if got := lexed([]uint16{'a', unit}); !got.is(result{at: 1, errno: api.ErrSubset}) {
			t.Errorf("Tokens with a lone surrogate: %+v", got)
		}
		u := []uint16{'"', unit, '\\', unit, '"'}
		if got := lexed(u); !got.is(result{tokens: []api.Token{aString(unit, unit), at(5, anEnd())}}) {
			t.Errorf("Tokens of a lone surrogate in a string: %+v", got)
		}
	}
}

func TestP5_2_FirstError(t *testing.T) {
	checkError(t, "a @ é", 2, api.ErrSyntax)
	checkError(t, "a é @", 2, api.ErrSubset)
	checkError(t, "1.5 00", 0, api.ErrSubset)
	checkError(t, "'\\1' /*", 0, api.ErrSyntax)
	checkError(t, "/* */ ** @", 6, api.ErrSubset)
	checkError(t, "é /*", 0, api.ErrSubset)
	checkError(t, strings.Repeat(" ", most-1)+"@", most-1, api.ErrSyntax)
	checkError(t, strings.Repeat("a;", most/2-1)+"é'", most-2, api.ErrSubset)
	// What is open takes in what would be an error.
	checkError(t, "a /* @ é", 2, api.ErrSyntax)
}

func TestP5_2_Whole(t *testing.T) {
	checkTokens(t, "let f = (x) => {\n  return x >>>= 10n; // é\n}",
		aWord("let"), at(4, aName("f")), at(6, aSign("=")), at(8, aSign("(")), at(9, aName("x")), at(10, aSign(")")), at(12, aSign("=>")), at(15, aSign("{")),
		nl(at(19, aWord("return"))), at(26, aName("x")), at(28, aSign(">>>=")), at(33, aBigInt(10)), at(36, aSign(";")), nl(at(43, aSign("}"))), at(44, anEnd()))
}

func TestP5_2_EveryUnit(t *testing.T) {
	around := [][2]string{{"", ""}, {"a", "b"}, {"1", ""}, {"1n", ""}, {"0", "1"}, {"'", "'"}, {`"\`, `"`}, {`'\0`, `'`}, {`'\x4`, `'`}, {`'\u00`, `1'`}, {"//", "\na"}, {"/*", "*/ a"}, {".", ""}, {"?.", ""}, {" ", "!"}}
	for _, s := range around {
		before, after := source(s[0]), source(s[1])
		for n := range 1 << 16 {
			checkReference(t, slices.Concat(before, []uint16{uint16(n)}, after))
		}
	}
}

func TestP5_2_AllShortSources(t *testing.T) {
	check := func(s string) { checkReference(t, source(s)) }
	eachSource("anxue019.?/*'\"\\ \n{+=>&_`#!@é\u2028", 3, check)
	eachSource("01nexb._$a \\", 4, check)
	eachSource("/*\n a\u2029", 6, check)
	eachSource("?.=*&|5", 5, check)
	eachSource("'\"\\0x8ug{a4\n\r\u2028é", 3, func(s string) {
		check("'" + s)
		check("'" + s + "'")
		check(`"` + s + `" a`)
	})
	eachSource("0aFg'u{", 5, func(s string) {
		check(`'\u` + s + `'`)
		check(`'\x` + s + `'`)
	})
}

// fragments are what random sources are made of.
func fragments() []string {
	all := strings.Fields(reserved + " " + unsupported + " " + signs + " " + signs + " " + unsupportedSigns)
	for range 10 {
		all = append(all, " ", "\n", "a", "x1", "0", "42", "7n", "'s'", `"\n\x41\u00e9"`, "/* c */", "// d\n", "\t", "\r\n", "/*\n*/", "9007199254740991", "''")
	}
	return append(all, "é", "\u2028", "`", "\\", "'", "\"", "#!", "@", ".5", "1.", "0x1", "00", "\x01", "/*", "//", "*/", "9007199254740992", over+"n", highest+"n", `'\1'`, "😀", `'\u{1}'`)
}

func TestP5_2_RandomSources(t *testing.T) {
	r, list := rand.New(rand.NewSource(1)), fragments()
	for range 20000 {
		s := ""
		for range r.Intn(12) {
			s += list[r.Intn(len(list))]
		}
		checkReference(t, source(s))
	}
	for range 20000 {
		u := make([]uint16, r.Intn(8))
		for i := range u {
			u[i] = uint16(r.Intn(1 << []int{7, 7, 7, 16}[r.Intn(4)]))
		}
		checkReference(t, u)
	}
}

// lists returns all lists of units and of limbs that a result has.
func lists(tokens []api.Token) (units [][]uint16, limbs [][]uint32) {
	for _, t := range tokens {
		units = append(units, t.Str)
		limbs = append(limbs, t.B.Mag)
	}
	return units, limbs
}

// cloned is a copy of tokens that shares nothing with them.
func cloned(tokens []api.Token) []api.Token {
	out := slices.Clone(tokens)
	for i := range out {
		out[i].Str, out[i].B.Mag = slices.Clone(out[i].Str), slices.Clone(out[i].B.Mag)
	}
	return out
}

// fill writes into a list and all of its spare capacity.
func fill[T any](l []T, with T) {
	l = l[:cap(l)]
	for i := range l {
		l[i] = with
	}
}

const varied = "let a = 'one' + \"two\\u00e9\" /* c */ + 12n - 18446744073709551616n;\n'one' + 12n; b += 7 // d"

func TestP5_3_ArgumentsStay(t *testing.T) {
	for _, s := range []string{varied, varied + " 'a", "a @", "/*", "", "'" + strings.Repeat("a", 100) + "'", "'\\u{", "1.5", "a**b", strings.Repeat("a", most+1)} {
		all := append(source(s), 'x', '\'', '\\', 'n', '1')
		was := slices.Clone(all)
		part := all[:len(all)-5]
		first := lexed(part)
		if !slices.Equal(all, was) {
			t.Fatalf("Tokens(%.40q) changes its argument", s)
		}
		if !first.is(lexed(slices.Clip(slices.Clone(part)))) {
			t.Errorf("Tokens(%.40q) reads beyond the length of its argument", s)
		}
		// The result does not hang on the argument any more.
		kept := cloned(first.tokens)
		fill(all, 0xFFFF)
		if !slices.EqualFunc(first.tokens, kept, alike) {
			t.Errorf("Tokens(%.40q) retains its argument", s)
		}
	}
}

func TestP5_3_ResultsAreNewMemory(t *testing.T) {
	u := source(varied)
	first, second := lexed(u), lexed(u)
	if first.errno != api.OK || len(first.tokens) != 19 {
		t.Fatalf("Tokens(%q) = %+v", varied, first)
	}
	was := cloned(second.tokens)
	units, limbs := lists(first.tokens)
	for i := range first.tokens {
		// Each list is filled while all others are held against what they were.
		kept := cloned(first.tokens)
		fill(units[i], 0xFFFF)
		fill(limbs[i], 0xFFFFFFFF)
		kept[i].Str, kept[i].B.Mag = first.tokens[i].Str, first.tokens[i].B.Mag
		if !slices.EqualFunc(first.tokens, kept, alike) {
			t.Errorf("what is written into the lists of token %d is in others", i)
		}
	}
	fill(first.tokens, api.Token{Kind: 77})
	if !slices.EqualFunc(second.tokens, was, alike) || !lexed(u).is(result{tokens: was}) || !slices.Equal(u, source(varied)) {
		t.Error("what is written into a result is in another one, or in the argument")
	}
}

// validSources have no errors; the random ones are drawn until they have none.
func validSources() []string {
	all := []string{"", "a", varied, "a + b", "let x = 1; f ( x ) ", "'a' + 2n", "x => { return x }", "a\n++ b", " /* c */ a // d \n b", "' ' + '  '", "a /*  */ b", "a ? .b : c", " \t\v\f ; \r\n "}
	r, list := rand.New(rand.NewSource(2)), fragments()
	for len(all) < 1000 {
		s := ""
		for range 1 + r.Intn(10) {
			s += list[r.Intn(len(list))] + strings.Repeat(" ", r.Intn(2))
		}
		if reference(source(s)).errno == api.OK {
			all = append(all, s)
		}
	}
	return all
}

func TestP5_4_EndAndPlaces(t *testing.T) {
	for _, s := range validSources() {
		u := source(s)
		got := lexed(u)
		last := len(got.tokens) - 1
		if got.errno != api.OK || got.at != 0 || last < 0 {
			t.Fatalf("Tokens(%q) = %+v", s, got)
		}
		for i, token := range got.tokens {
			if (token.Kind == api.TEnd) != (i == last) || i > 0 && token.At <= got.tokens[i-1].At || token.At < 0 {
				t.Errorf("Tokens(%q) = %+v", s, got)
			}
		}
		if got.tokens[last].At != len(u) {
			t.Errorf("Tokens(%q) end at %d", s, got.tokens[last].At)
		}
	}
}

func TestP5_4_TwoBlanks(t *testing.T) {
	doubled := 0
	for _, s := range validSources() {
		u := source(s)
		was := lexed(u)
		for i, token := range was.tokens {
			// One blank directly before the token, or directly behind the one before it.
			places := []int{token.At - 1}
			if i > 0 {
				places = append(places, was.tokens[i-1].At+size(was.tokens[i-1], u))
			}
			for _, place := range places {
				if place < 0 || place >= token.At || !slices.Contains([]uint16{9, 11, 12, 32}, u[place]) {
					continue
				}
				doubled++
				for _, blank := range []uint16{9, 11, 12, 32} {
					got := lexed(slices.Insert(slices.Clone(u), place, blank))
					want := cloned(was.tokens)
					for k := i; k < len(want); k++ {
						want[k].At++
					}
					if !got.is(result{tokens: want}) {
						t.Errorf("%q with a blank more at %d: %+v; want %+v", s, place, got, want)
					}
				}
			}
		}
	}
	if doubled < 1000 {
		t.Errorf("only %d blanks were doubled", doubled)
	}
}

// size is how many units a token takes: the fewest that are read as it.
func size(token api.Token, u []uint16) int {
	for n := 1; token.At+n <= len(u); n++ {
		part := reference(u[token.At : token.At+n])
		if part.errno == api.OK && len(part.tokens) == 2 && part.tokens[0].Kind == token.Kind && part.tokens[0].Text == token.Text &&
			slices.Equal(part.tokens[0].Str, token.Str) && part.tokens[0].N == token.N && slices.Equal(part.tokens[0].B.Mag, token.B.Mag) {
			return n
		}
	}
	return 0
}
