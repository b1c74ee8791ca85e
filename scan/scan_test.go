package scan

import (
	"fmt"
	"math"
	"math/rand"
	"regexp"
	"slices"
	"strconv"
	"strings"
	"testing"
	"unicode/utf8"

	"graftbed/api"
)

// Short forms of tokens.
func nm(s string, line int) Token { return Token{1, s, line} }
func tx(s string, line int) Token { return Token{2, s, line} }
func sg(s string, line int) Token { return Token{3, s, line} }
func cm(s string, line int) Token { return Token{4, s, line} }
func lf(line int) Token           { return Token{3, "\n", line} }
func end(line int) Token          { return Token{0, "", line} }

// tokens is all tokens of s up to the end, or to the fault.
func tokens(t *testing.T, s string) ([]Token, api.Fault) {
	t.Helper()
	x, bad := New(s)
	if bad != (api.Fault{}) {
		if x != nil {
			t.Errorf("New(%q): a scanner beside %v", s, bad)
		}
		return nil, bad
	}
	var l []Token
	// Of each byte there is one token at most, and one at its line's end.
	for range 2*len(s) + 2 {
		tok, bad := x.Next()
		if bad != (api.Fault{}) {
			if tok != (Token{}) {
				t.Errorf("%q: %+v beside %v", s, tok, bad)
			}
			stays(t, x, s, Token{}, bad)
			return l, bad
		}
		l = append(l, tok)
		if tok.Kind == 0 {
			stays(t, x, s, tok, api.Fault{})
			return l, api.Fault{}
		}
	}
	t.Fatalf("%q: no end behind %+v", s, l)
	return nil, api.Fault{}
}

// stays fails unless the scanner answers that again and again.
func stays(t *testing.T, x *Scanner, s string, want Token, fault api.Fault) {
	t.Helper()
	for range 3 {
		if tok, bad := x.Next(); tok != want || bad != fault {
			t.Errorf("%q: %+v, %v, not again %+v, %v", s, tok, bad, want, fault)
		}
	}
}

// told fails unless the tokens of s are those, without a fault.
func told(t *testing.T, s string, want ...Token) {
	t.Helper()
	if l, bad := tokens(t, s); bad != (api.Fault{}) || !slices.Equal(l, want) {
		t.Errorf("%q: %+v, %v, not %+v", s, l, bad, want)
	}
}

// refused fails unless behind those tokens of s a fault is told in that line.
func refused(t *testing.T, s string, line int, want ...Token) {
	t.Helper()
	if l, bad := tokens(t, s); bad != (api.Fault{E: api.ErrSource, Line: line}) || !slices.Equal(l, want) {
		t.Errorf("%q: %+v, %v, not %+v and line %d", s, l, bad, want, line)
	}
}

// notNew fails unless New refuses s in that line.
func notNew(t *testing.T, s string, line int) {
	t.Helper()
	if x, bad := New(s); x != nil || bad != (api.Fault{E: api.ErrSource, Line: line}) {
		t.Errorf("New(%q): %v, not line %d", s, bad, line)
	}
}

// texts tells all texts of at most n of the signs.
func texts(signs string, n int) []string {
	all := []string{""}
	for from := 0; n > 0; n-- {
		to := len(all)
		for _, s := range all[from:to] {
			for _, r := range signs {
				all = append(all, s+string(r))
			}
		}
		from = to
	}
	return all
}

// P10.1

func TestLine(t *testing.T) {
	s := "a\n\r\nb\n"
	for at, want := range []int{1, 1, 2, 2, 3, 3, 4, 4, 4} {
		if n := Line(s, at); n != want {
			t.Errorf("Line(%q, %d): %d, not %d", s, at, n, want)
		}
	}
	for _, s := range []string{"", "a", "\n", "\n\n\n", "\xff\n\x00\n"} {
		last := 1 + strings.Count(s, "\n")
		for _, at := range []int{len(s), len(s) + 1, math.MaxInt} {
			if n := Line(s, at); n != last {
				t.Errorf("Line(%q, %d): %d, not %d", s, at, n, last)
			}
		}
		for _, at := range []int{0, -1, -99, math.MinInt} {
			if n := Line(s, at); n != 1 {
				t.Errorf("Line(%q, %d): %d, not 1", s, at, n)
			}
		}
	}
}

// The first mark says nothing; a further one is a rune of a name.
func TestNewMark(t *testing.T) {
	mark := "\xef\xbb\xbf"
	told(t, mark, end(1))
	told(t, mark+"a", nm("a", 1), lf(1), end(1))
	told(t, mark+mark, nm(mark, 1), lf(1), end(1))
	told(t, mark+mark+"a", nm(mark+"a", 1), lf(1), end(1))
	told(t, " "+mark, nm(mark, 1), lf(1), end(1))
	told(t, "\n"+mark, nm(mark, 2), lf(2), end(2))
	told(t, mark+"\n\na", nm("a", 3), lf(3), end(3))
	notNew(t, "\xef\xbb", 1)
	notNew(t, "\xef\xbba", 1)
	notNew(t, mark+"\n\x00", 2)
	notNew(t, mark+"\n\n\xef\xbb", 3)
}

func TestNewRunes(t *testing.T) {
	for r := rune(1); r <= 0x10FFFF; r++ {
		half := r >= 0xD800 && r <= 0xDFFF
		s := string(r)
		if half {
			s = string([]byte{0xED, byte(0x80 | r>>6&0x3F), byte(0x80 | r&0x3F)})
		}
		if x, bad := New(s); (bad == api.Fault{}) == half || (x == nil) != half {
			t.Errorf("%U: %v", r, bad)
		}
	}
	for _, s := range []string{
		"\x00", "\x80", "\xbf", "\xc3", "\xc0\x80", "\xc1\xbf", "\xc0\xaf", "\xe0\x80\x80", "\xe0\x9f\xbf", "\xf0\x80\x80\x80", "\xf0\x8f\xbf\xbf",
		"\xed\xa0\x80", "\xed\xbf\xbf", "\xed\xa0\x80\xed\xb0\x80", "\xf4\x90\x80\x80", "\xf5\x80\x80\x80", "\xf8\x88\x80\x80\x80", "\xfe", "\xff", "\xe9\x80", "\xf0\x9f\x98", "\xc3(", "\xe2\x82(",
	} {
		notNew(t, s, 1)
		notNew(t, "a"+s, 1)
		notNew(t, s+"\n", 1)
		notNew(t, "\n"+s, 2)
		notNew(t, "a\r\n\u00e9\n"+s+"\n\x00", 3)
		notNew(t, "\ufffd\n"+s, 2)
		for _, around := range []string{"// ?", "/* ? */", "`?`", "\"?\"", "\"?", "`?", "/*?"} {
			notNew(t, "\n\n"+strings.Replace(around, "?", s, 1), 3)
		}
	}
	told(t, "\ufffd", nm("\ufffd", 1), lf(1), end(1))
	told(t, "// \ufffd", cm("// \ufffd", 1), end(1))
}

// New doesn't ask for tokens: their faults are told by Next.
func TestNewFirst(t *testing.T) {
	notNew(t, "\"\n\n\xff", 3)
	refused(t, "a\n\"", 2, nm("a", 1), lf(1))
}

// P10.2

func TestNextExample(t *testing.T) {
	told(t, "package a // b", nm("package", 1), nm("a", 1), cm("// b", 1), lf(1), end(1))
}

func TestNextSource(t *testing.T) {
	told(t, "// x\r\n\r\npackage a\r\n\r\nimport (\r\n\t\"b\"\r\n\tc `d`; . \"e\" /* f */\r\n)\r\n",
		cm("// x", 1), nm("package", 3), nm("a", 3), lf(3),
		nm("import", 5), sg("(", 5), tx("b", 6), lf(6),
		nm("c", 7), tx("d", 7), sg(";", 7), sg(".", 7), tx("e", 7), cm("/* f */", 7), lf(7),
		sg(")", 8), lf(8), end(9))
}

func TestNextEnd(t *testing.T) {
	for s, line := range map[string]int{"": 1, " \t\r": 1, "\n": 2, "\n\n \n\t": 4, "\r\n": 2} {
		told(t, s, end(line))
	}
	told(t, "a\n\n", nm("a", 1), lf(1), end(3))
	told(t, ";\n \n", sg(";", 1), end(3))
}

func TestNextBlanks(t *testing.T) {
	for _, s := range []string{"a b", " a b ", "\ta\tb\t", "\ra\rb\r", " \t\ra \t\rb \t\r"} {
		told(t, s, nm("a", 1), nm("b", 1), lf(1), end(1))
	}
	// No other byte is a blank; what is above 7F is a name, also what looks like one.
	told(t, "\v", sg("\v", 1), end(1))
	told(t, "\f", sg("\f", 1), end(1))
	told(t, "\u00a0\u2028", nm("\u00a0\u2028", 1), lf(1), end(1))
	told(t, "a\u0085b", nm("a\u0085b", 1), lf(1), end(1))
}

func TestNextNames(t *testing.T) {
	for _, s := range []string{"a", "z", "A", "Z", "_", "__", "a1", "_9", "aZ09_", "import", "\u0080", "\u00e9", "\u00e9a1", "a\u00e9", "\u65e5\u672c", "\u0663", "\U0010ffff", "a\u0663"} {
		told(t, s, nm(s, 1), lf(1), end(1))
		told(t, "("+s+"(", sg("(", 1), nm(s, 1), sg("(", 1), end(1))
	}
	told(t, "1a", sg("1", 1), nm("a", 1), lf(1), end(1))
	told(t, "0x1F", sg("0", 1), nm("x1F", 1), lf(1), end(1))
	told(t, "a-b.c", nm("a", 1), sg("-", 1), nm("b", 1), sg(".", 1), nm("c", 1), lf(1), end(1))
	told(t, "a/b", nm("a", 1), sg("/", 1), nm("b", 1), lf(1), end(1))
}

func TestNextQuoted(t *testing.T) {
	for in, want := range map[string]string{
		"": "", "a": "a", " a\t": " a\t", "`": "`", "//": "//", "/*": "/*", "*/": "*/", "a\rb": "a\rb", "\r": "\r", "\u00e9": "\u00e9",
		`\"`: `"`, `\\`: `\`, `\\\"`: `\"`, `\\\\`: `\\`, `\"\"`: `""`, `\n`: "\n", `\x41\101\u00e9\U0001F600`: "AA\u00e9\U0001f600", `\xff`: "\xff", `\000`: "\x00",
	} {
		told(t, `"`+in+`"`, tx(want, 1), lf(1), end(1))
		told(t, "\n"+`"`+in+`"`+"a"+`"`+in+`";`, tx(want, 2), nm("a", 2), tx(want, 2), sg(";", 2), end(2))
	}
	for _, s := range []string{`"`, `"a`, `"\`, `"\"`, `"a\"`, `"\\\"`, "\"\n", "\"a\n\"", "\"\\\n\"", "\"\\\\\n\"", "\"\\", `"\q"`, `"\'"`, `"\400"`, `"\08"`, `"\x4"`, `"\x4g"`, `"\ud800"`, `"\U00110000"`, `"\u12"`, "\"\r\n\""} {
		refused(t, s, 1)
		refused(t, s+"\n", 1)
		refused(t, "; "+s, 1, sg(";", 1))
		refused(t, "a\n\n\t"+s, 3, nm("a", 1), lf(1))
		refused(t, "a "+s+"\nb", 1, nm("a", 1))
	}
}

func TestNextRaw(t *testing.T) {
	for in, want := range map[string]string{
		"": "", "a": "a", `\`: `\`, `\\n"`: `\\n"`, "\"": "\"", "\r": "", "\r\r": "", "a\rb\r": "ab", "//": "//", "/*": "/*", " ": " ", "\t": "\t", "\u00e9": "\u00e9", `\q`: `\q`,
	} {
		told(t, "`"+in+"`", tx(want, 1), lf(1), end(1))
		told(t, "`"+in+"``"+in+"`(", tx(want, 1), tx(want, 1), sg("(", 1), end(1))
	}
	told(t, "`\n`", tx("\n", 1), lf(2), end(2))
	told(t, "\n`a\r\n\nb` `\n`a", tx("a\n\nb", 2), tx("\n", 4), nm("a", 5), lf(5), end(5))
	for _, s := range []string{"`", "`a", "`\\", "`\n", "`a\n\nb\"", "`//", "`\r"} {
		refused(t, s, 1)
		refused(t, "\n"+s, 2)
		refused(t, "a"+s, 1, nm("a", 1))
		refused(t, "`\n`"+s, 2, tx("\n", 1))
	}
}

func TestNextComments(t *testing.T) {
	for s, want := range map[string]string{"//": "//", "// a": "// a", "//\r": "//", "// a \r": "// a ", "//\r\r": "//\r", "// a\rb": "// a\rb", "///": "///", "//*": "//*", "// /* a": "// /* a", "// \" `": "// \" `", "//\t": "//\t"} {
		told(t, s, cm(want, 1), end(1))
		told(t, "\n"+s+"\n"+s, cm(want, 2), cm(want, 3), end(3))
		told(t, "a"+s+"\nb", nm("a", 1), cm(want, 1), lf(1), nm("b", 2), lf(2), end(2))
	}
	for _, s := range []string{"/**/", "/***/", "/* a */", "/*//*/", "/*/*/", "/*\"*/", "/*`*/", "/*\r*/", "/* * / */", "/*/ */"} {
		told(t, s, cm(s, 1), end(1))
		told(t, s+s+"a"+s+"(", cm(s, 1), cm(s, 1), nm("a", 1), cm(s, 1), sg("(", 1), end(1))
	}
	told(t, "/*\n\r\n*/ ;", cm("/*\n\r\n*/", 1), sg(";", 3), end(3))
	told(t, "/* a */ */", cm("/* a */", 1), sg("*", 1), sg("/", 1), end(1))
	told(t, "// a\n*/", cm("// a", 1), sg("*", 2), sg("/", 2), end(2))
	for _, s := range []string{"/*", "/*/", "/* a", "/* a *", "/*\n\n", "/* /* /"} {
		refused(t, s, 1)
		refused(t, "\n\n"+s, 3)
		refused(t, "/**/"+s, 1, cm("/**/", 1))
		refused(t, "("+s, 1, sg("(", 1))
	}
}

// Each byte that begins nothing else is a sign.
func TestNextSigns(t *testing.T) {
	for c := 1; c < 0x80; c++ {
		s := string(rune(c))
		if strings.Contains(" \t\r\n\"`_", s) || regexp.MustCompile(`[a-zA-Z]`).MatchString(s) {
			continue
		}
		want := []Token{sg(s, 1), end(1)}
		if strings.Contains(")]}", s) {
			want = []Token{sg(s, 1), lf(1), end(1)}
		}
		told(t, s, want...)
		told(t, s+" "+s, append([]Token{sg(s, 1)}, want...)...)
	}
	told(t, "/ / * /", sg("/", 1), sg("/", 1), sg("*", 1), sg("/", 1), end(1))
	told(t, "<<=12'", sg("<", 1), sg("<", 1), sg("=", 1), sg("1", 1), sg("2", 1), sg("'", 1), end(1))
}

// What is ahead of a fault is told, nothing behind it.
func TestNextFault(t *testing.T) {
	refused(t, "a /* b", 1, nm("a", 1))
	refused(t, "a ( \"\n) b", 1, nm("a", 1), sg("(", 1))
	refused(t, "a\n`b` \"\\q\" c", 2, nm("a", 1), lf(1), tx("b", 2))
	refused(t, "// a\n/*\n", 2, cm("// a", 1))
}

// P10.3

func TestLineFeeds(t *testing.T) {
	for _, last := range []Token{nm("a", 1), tx("b", 1), tx("", 1), sg(")", 1), sg("]", 1), sg("}", 1)} {
		s := last.Text
		if last.Kind == 2 {
			s = strconv.Quote(s)
		}
		told(t, s, last, lf(1), end(1))
		told(t, s+" \t\r", last, lf(1), end(1))
		told(t, s+"\n", last, lf(1), end(2))
		told(t, s+"\r\n\n\n;", last, lf(1), sg(";", 4), end(4))
		told(t, s+";\n", last, sg(";", 1), end(2))
		told(t, s+"(", last, sg("(", 1), end(1))
		told(t, s+" // x", last, cm("// x", 1), lf(1), end(1))
		told(t, s+"//x\n//y\n", last, cm("//x", 1), lf(1), cm("//y", 2), end(3))
		told(t, s+"/*x*/", last, cm("/*x*/", 1), lf(1), end(1))
		told(t, s+"/*x*/\n;", last, cm("/*x*/", 1), lf(1), sg(";", 2), end(2))
		told(t, s+"/*x*/;", last, cm("/*x*/", 1), sg(";", 1), end(1))
		told(t, s+" /*\n\n*/", last, lf(1), cm("/*\n\n*/", 1), end(3))
		told(t, s+" /*\n*/ /*\n*/\n;", last, lf(1), cm("/*\n*/", 1), cm("/*\n*/", 2), sg(";", 4), end(4))
		told(t, s+"/*x*/ /*\n*/;", last, cm("/*x*/", 1), lf(1), cm("/*\n*/", 1), sg(";", 2), end(2))
		told(t, s+"/*x*/ //y\n;", last, cm("/*x*/", 1), cm("//y", 1), lf(1), sg(";", 2), end(2))
		refused(t, s+" /*", 1, last)
		refused(t, s+" /*\n", 1, last)
		refused(t, s+" /*x*/ /*\n", 1, last, cm("/*x*/", 1))
		refused(t, s+"\n/*\n", 2, last, lf(1))
	}
	for _, s := range []string{"", "(", "[", "{", ";", ".", "7", "+", "'"} {
		var want []Token
		if s != "" {
			want = []Token{sg(s, 1)}
		}
		told(t, s+"\n\n", append(slices.Clone(want), end(3))...)
		told(t, s+"//x\n", append(slices.Clone(want), cm("//x", 1), end(2))...)
		told(t, s+"/*\n*/\n", append(slices.Clone(want), cm("/*\n*/", 1), end(3))...)
	}
}

// The line is that where the line feed stands, not that of the last token.
func TestLineFeedLines(t *testing.T) {
	told(t, "a\n`b\n\n`\n(\n)", nm("a", 1), lf(1), tx("b\n\n", 2), lf(4), sg("(", 5), sg(")", 6), lf(6), end(6))
	told(t, "`\n` /* x\n*/\n", tx("\n", 1), lf(2), cm("/* x\n*/", 2), end(4))
}

// P10.4

func TestUnquoteBytes(t *testing.T) {
	short := map[byte]string{'a': "\x07", 'b': "\x08", 'f': "\x0c", 'n': "\x0a", 'r': "\x0d", 't': "\x09", 'v': "\x0b", '\\': "\x5c", '"': "\x22"}
	for c := range 256 {
		s := string([]byte{byte(c)})
		isNot := s == "\n" || s == "\"" || s == "\\"
		unquoted(t, s, s, !isNot)
		unquoted(t, s+"x", s+"x", !isNot || s == "x")
		unquoted(t, "x"+s, "x"+s, !isNot)
		want, is := short[byte(c)]
		unquoted(t, "\\"+s, want, is)
		unquoted(t, "a\\"+s+"b", "a"+want+"b", is)
	}
}

// unquoted fails unless s is unquoted so.
func unquoted(t *testing.T, s, want string, is bool) {
	t.Helper()
	if !is {
		want = ""
	}
	if got, ok := Unquote(s); got != want || ok != is {
		t.Errorf("Unquote(%q): %q, %t, not %q, %t", s, got, ok, want, is)
	}
}

func TestUnquoteNumbers(t *testing.T) {
	for n := range 0x200 {
		unquoted(t, fmt.Sprintf(`\%03o`, n), string([]byte{byte(n)}), n < 0x100)
		unquoted(t, fmt.Sprintf(`x\%03o7`, n), "x"+string([]byte{byte(n)})+"7", n < 0x100)
	}
	for n := range 0x100 {
		unquoted(t, fmt.Sprintf(`\x%02x`, n), string([]byte{byte(n)}), true)
		unquoted(t, fmt.Sprintf(`\x%02XF`, n), string([]byte{byte(n)})+"F", true)
	}
	for n := range 0x10000 {
		half := n >= 0xD800 && n <= 0xDFFF
		unquoted(t, fmt.Sprintf(`\u%04x`, n), string(rune(n)), !half)
		unquoted(t, fmt.Sprintf(`\U%08Xa`, n), string(rune(n))+"a", !half)
	}
	for _, n := range []uint32{0x10000, 0x1F600, 0x10FFFF} {
		unquoted(t, fmt.Sprintf(`\U%08x`, n), string(rune(n)), true)
	}
	for _, n := range []uint32{0x110000, 0x1FFFFF, 0x7FFFFFFF, 0x80000000, 0x80000041, 0xFFFFFFFF} {
		unquoted(t, fmt.Sprintf(`\U%08x`, n), "", false)
	}
	for _, s := range []string{`\0`, `\00`, `\08`, `\008`, `\800`, `\+01`, `\0_1`, `\x`, `\x4`, `\x4g`, `\xg4`, `\x+4`, `\x-1`, `\x_4`, `\x 4`, `\X41`, `\u`, `\u123`, `\u123g`, `\u+123`, `\u0x12`, `\U`, `\U0000004`, `\U0000004g`, `\U00_00041`, `\u12\n`, `\'`, `\0\n`, `\`, `a\`, `\\\`, "\\\n", "\\\u00e9", "\\\xff", `\e`, `\s`, `\d65`} {
		unquoted(t, s, "", false)
		unquoted(t, "a"+s, "", false)
	}
	unquoted(t, "", "", true)
	unquoted(t, "\xff\xc0\x00\r", "\xff\xc0\x00\r", true)
	unquoted(t, `\\x41`, `\x41`, true)
	unquoted(t, `\\\x41\"\1011`, `\A"A1`, true)
	unquoted(t, `\ud83d\ude00`, "", false)
}

// Of texts of runes the library says the same.
func TestUnquoteLibrary(t *testing.T) {
	for _, s := range append(texts("\\\"\nxuU04dfn'", 4), texts("\\x47\u00e9", 6)...) {
		want, err := strconv.Unquote("\"" + s + "\"")
		unquoted(t, s, want, err == nil)
	}
}

// P10.5

// model reads s by patterns.
func model(s string) ([]Token, api.Fault) {
	blanks, blankLines := regexp.MustCompile(`^[ \t\r]*`), regexp.MustCompile(`^[ \t\r\n]*`)
	name := regexp.MustCompile(`^[A-Za-z_\x{80}-\x{10FFFF}][A-Za-z_\x{80}-\x{10FFFF}0-9]*`)
	short, long := regexp.MustCompile(`^//[^\n]*`), regexp.MustCompile(`^/\*(?s:.*?)\*/`)
	quoted, raw := regexp.MustCompile(`^"([^"\\\n]|\\[^\n])*"`), regexp.MustCompile("^`[^`]*`")

	var l []Token
	closes := false
	rest := strings.TrimPrefix(s, "\ufeff")
	for {
		if closes {
			rest = rest[len(blanks.FindString(rest)):]
		} else {
			rest = rest[len(blankLines.FindString(rest)):]
		}
		line := 1 + strings.Count(s[:len(s)-len(rest)], "\n")
		text := short.FindString(rest) + long.FindString(rest)
		switch {
		case closes && (rest == "" || rest[0] == '\n' || strings.Contains(text, "\n")):
			l, closes = append(l, lf(line)), false
			continue
		case rest == "":
			return append(l, end(line)), api.Fault{}
		case text != "":
			l = append(l, cm(strings.TrimSuffix(text, "\r"), line))
		case rest[0] == '"':
			text = quoted.FindString(rest)
			// The library takes no wrong bytes, but they are none of a source.
			says, err := strconv.Unquote(text)
			if err != nil {
				return l, api.Fault{E: api.ErrSource, Line: line}
			}
			l, closes = append(l, tx(says, line)), true
		case rest[0] == '`':
			if text = raw.FindString(rest); text == "" {
				return l, api.Fault{E: api.ErrSource, Line: line}
			}
			l, closes = append(l, tx(strings.ReplaceAll(strings.Trim(text, "`"), "\r", ""), line)), true
		case strings.HasPrefix(rest, "/*"):
			return l, api.Fault{E: api.ErrSource, Line: line}
		case name.MatchString(rest):
			text = name.FindString(rest)
			l, closes = append(l, nm(text, line)), true
		default:
			text = rest[:1]
			l, closes = append(l, sg(text, line)), strings.Contains(")]}", text)
		}
		rest = rest[len(text):]
	}
}

// likeModel fails unless the tokens of s are the model's, and their lines never fall.
func likeModel(t *testing.T, s string) {
	t.Helper()
	l, bad := tokens(t, s)
	want, fault := model(s)
	if !slices.Equal(l, want) || bad != fault {
		t.Errorf("%q: %+v, %v, not %+v, %v", s, l, bad, want, fault)
	}
	if !slices.IsSortedFunc(l, func(a, b Token) int { return a.Line - b.Line }) {
		t.Errorf("%q: %+v", s, l)
	}
}

func TestModel(t *testing.T) {
	for _, s := range append(texts("a)/*\n \"`\\", 4), texts("/*\nx", 7)...) {
		likeModel(t, s)
	}
	for _, s := range texts("a1\u00e9\ufeff\r\n`", 4) {
		likeModel(t, s)
	}
}

// chance is texts of these parts, by a fixed seed.
func chance(turns int, parts []string, use func(s string)) {
	r := rand.New(rand.NewSource(10))
	for range turns {
		var s strings.Builder
		for range r.Intn(20) {
			s.WriteString(parts[r.Intn(len(parts))])
		}
		use(s.String())
	}
}

func TestModelSources(t *testing.T) {
	parts := []string{"package", "import", "a", " ", "\n", "\t", "\r\n", "(", ")", "]", "}", ";", ".", "\"b/c\"", "\"\\\"\"", "\"\\x41\\u00e9\"", "`d\r\n`", "// e", "/* f */", "/* g\n*/", "7", "\u00e9", "/", "*"}
	chance(20000, parts, func(s string) { likeModel(t, s) })
	for _, wrong := range []string{"\"", "`", "/*", "\\", "\"\\q\""} {
		chance(1000, append(slices.Clone(parts), wrong), func(s string) { likeModel(t, s) })
	}
}

// What stands behind a line's end changes nothing ahead of it.
func TestNothingBehind(t *testing.T) {
	behind := []string{"", "a", "\n", ")", "//x", "/*\n*/", "\"", "`", "*/", "\ufeff"}
	for _, s := range texts("a)/*\n\"`", 4) {
		l, bad := tokens(t, s+"\n")
		if bad != (api.Fault{}) {
			continue
		}
		l = l[:len(l)-1]
		for _, more := range behind {
			if got, _ := tokens(t, s+"\n"+more); len(got) < len(l) || !slices.Equal(got[:len(l)], l) {
				t.Errorf("%q, then %q: %+v, not ahead %+v", s, more, got, l)
			}
		}
	}
}

// Scanners of one text have nothing of each other.
func TestApart(t *testing.T) {
	s := "a\n\"b\" /* c\n*/ )"
	want, _ := tokens(t, s)
	x, _ := New(s)
	for i, tok := range want {
		y, _ := New(s)
		for _, again := range want[:i+1] {
			if got, bad := y.Next(); got != again || bad != (api.Fault{}) {
				t.Errorf("%+v, %v, not %+v", got, bad, again)
			}
		}
		if got, bad := x.Next(); got != tok || bad != (api.Fault{}) {
			t.Errorf("%+v, %v, not %+v", got, bad, tok)
		}
	}
}

// All calls end at all texts, and answer the same again.
func TestTotal(t *testing.T) {
	var parts []string
	for c := range 256 {
		parts = append(parts, string([]byte{byte(c)}))
	}
	parts = append(parts, "\"", "\"", "`", "//", "/*", "*/", "\n", "\\")
	wrong := 0
	chance(20000, parts, func(s string) {
		l, bad := tokens(t, s)
		again, worse := tokens(t, s)
		if !slices.Equal(l, again) || bad != worse {
			t.Errorf("%q: %+v, %v, then %+v, %v", s, l, bad, again, worse)
		}
		isNone := !utf8.ValidString(s) || strings.Contains(s, "\x00")
		if isNone && (len(l) > 0 || bad.E != api.ErrSource) {
			t.Errorf("%q: %+v, %v", s, l, bad)
		}
		if isNone {
			wrong++
		}
		Unquote(s)
	})
	if wrong == 0 || wrong == 20000 {
		t.Error(wrong)
	}
	for _, part := range []string{"a", "/*", "/**/", "\"", "`", "\n", "(", "a\n", "a /*\n*/", "\\"} {
		likeModel(t, strings.Repeat(part, 500))
	}
}
