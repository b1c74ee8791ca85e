package lex

import (
	"reflect"
	"runtime"
	"slices"
	"strings"
	"sync"
	"testing"
	"time"

	"graftbed/api"
)

// plain is words without quotes.
func plain(l ...string) []Word {
	var words []Word
	for _, s := range l {
		words = append(words, Word{Text: s})
	}
	return words
}

// quoted is words in quotes.
func quoted(l ...string) []Word {
	var words []Word
	for _, s := range l {
		words = append(words, Word{Text: s, Quoted: true})
	}
	return words
}

// texts tells all texts of at most n of the signs.
func texts(signs string, n int) []string {
	all := []string{""}
	for from := 0; n > 0; n-- {
		to := len(all)
		for _, s := range all[from:to] {
			for i := range len(signs) {
				all = append(all, s+signs[i:i+1])
			}
		}
		from = to
	}
	return all
}

// same tells whether two lists hold the same lines, with or without nil.
func same(a, b []Line) bool {
	return slices.EqualFunc(a, b, func(x, y Line) bool {
		words := slices.Equal(x.Words, y.Words)
		x.Words, y.Words = nil, nil
		return words && reflect.DeepEqual(x, y)
	})
}

// told fails unless the lines of s are those, without a fault.
func told(t *testing.T, s string, want ...Line) {
	t.Helper()
	l, f := Lines(s)
	if f != (api.Fault{}) || !same(l, want) {
		t.Errorf("Lines(%q): %+v, %v, not %+v", s, l, f, want)
	}
}

// refused fails unless s has that fault, and nothing else is told.
func refused(t *testing.T, s string, e api.Errno, line int) {
	t.Helper()
	if l, f := Lines(s); len(l) != 0 || f != (api.Fault{E: e, Line: line}) {
		t.Errorf("Lines(%q): %+v, %v, not %d in line %d", s, l, f, e, line)
	}
}

func TestLinesExample(t *testing.T) {
	told(t, "require a.b/c v1.0.0 // indirect", Line{Num: 1, Words: plain("require", "a.b/c", "v1.0.0"), Comment: "indirect"})
}

func TestLinesFile(t *testing.T) {
	told(t, "module a.b\r\n\n// alone\ngo 1.20//x\nrequire (\n\tc.d v1.0.0 // indirect\t\n\t\"e f\" `g`\n\n) // end\nreplace a => ../b",
		Line{Num: 1, Words: plain("module", "a.b")},
		Line{Num: 4, Words: plain("go", "1.20"), Comment: "x"},
		Line{Num: 5, Words: plain("require"), Open: true},
		Line{Num: 6, Words: plain("c.d", "v1.0.0"), Comment: "indirect"},
		Line{Num: 7, Words: quoted("e f", "g")},
		Line{Num: 9, Close: true, Comment: "end"},
		Line{Num: 10, Words: plain("replace", "a", "=>", "../b")},
	)
}

// Lines are numbered with those that say nothing; an empty last one is none.
func TestLinesNumbers(t *testing.T) {
	for _, s := range []string{"", "\n", "\n\n\n", " ", "\t\r\n \n", "//", "// a", " \t// a (\n//)\n", "\r", "///"} {
		told(t, s)
	}
	told(t, "a", Line{Num: 1, Words: plain("a")})
	told(t, "a\n", Line{Num: 1, Words: plain("a")})
	told(t, "\na", Line{Num: 2, Words: plain("a")})
	told(t, "// x\n\n \na\n\nb\n\n", Line{Num: 4, Words: plain("a")}, Line{Num: 6, Words: plain("b")})
}

func TestLinesBlanks(t *testing.T) {
	for _, s := range []string{"a b", " a b", "a b ", "\ta\tb\t", "\ra\rb\r", "a \t\r b", " \t\ra\r\t b\r \t"} {
		told(t, s, Line{Num: 1, Words: plain("a", "b")})
	}
	for _, s := range []string{"\v", "a\vb", "a\fb", "a\x00", "\x00", "a\u00a0b", "a\u0085", "\x1f", "a \x7f"} {
		refused(t, s, api.ErrToken, 1)
	}
}

func TestLinesBlocks(t *testing.T) {
	told(t, "(", Line{Num: 1, Open: true})
	told(t, ")", Line{Num: 1, Close: true})
	told(t, "a(", Line{Num: 1, Words: plain("a"), Open: true})
	told(t, "a)", Line{Num: 1, Words: plain("a"), Close: true})
	told(t, " a b\t( \t", Line{Num: 1, Words: plain("a", "b"), Open: true})
	told(t, "\"a\"(", Line{Num: 1, Words: quoted("a"), Open: true})
	told(t, "`a`)//b", Line{Num: 1, Words: quoted("a"), Close: true, Comment: "b"})
	told(t, "(//)", Line{Num: 1, Open: true, Comment: ")"})
	told(t, "( // (", Line{Num: 1, Open: true, Comment: "("})
	for _, s := range []string{"()", "( )", ")(", "((", "))", "(a", "( a", ")a", ") a", "a(b", "a (b)", "a) b", "(\"a\"", "(`a`", "( /", "(/", ") ,", "(\x00"} {
		refused(t, s, api.ErrToken, 1)
	}
}

func TestLinesComments(t *testing.T) {
	for s, want := range map[string]string{
		"a//": "", "a //": "", "a// \t\r": "", "a//b": "b", "a // b": "b", "a //\tb c\r": "b c", "a // b // c": "b // c", "a ///b": "/b", "a///b": "/b", "a // /": "/",
		"a // \"": "\"", "a // (": "(", "a // , ) `": ", ) `", "a // \u00e9\x01\x7f\xff": "\u00e9\x01\x7f\xff", "a // \vb\v ": "\vb\v", "a //\u00a0": "\u00a0", "a // b\tc": "b\tc",
	} {
		told(t, s, Line{Num: 1, Words: plain("a"), Comment: want})
	}
	told(t, "// a\nb", Line{Num: 2, Words: plain("b")})
	told(t, "a // b\nc", Line{Num: 1, Words: plain("a"), Comment: "b"}, Line{Num: 2, Words: plain("c")})
	told(t, "\"//\"//\"", Line{Num: 1, Words: quoted("//"), Comment: "\""})
	told(t, "a /b/ / /", Line{Num: 1, Words: plain("a", "/b/", "/", "/")})
	told(t, "a / //", Line{Num: 1, Words: plain("a", "/")})
}

func TestLinesPlainWords(t *testing.T) {
	for _, s := range []string{"!", "~", "a", "=>", "[v1.0.0", "v2.0.0]", "\\", "\\n", "a\\\\b", "'a'", "{}", "a;b", "a/b/c", "/", "/a/", "#", "..", "a*b?"} {
		told(t, s, Line{Num: 1, Words: plain(s)})
	}
	for _, s := range []string{",", "a,", ",a", "a, b", "a ,", "a\"", "a\"b\"", "a`b`", "a`", "\u00e9", "a\u00e9", "a\x01", "a\x7f", "a\x80", "\xff"} {
		refused(t, s, api.ErrToken, 1)
	}
}

func TestLinesQuotedWords(t *testing.T) {
	for s, want := range map[string]string{
		`""`: "", `"a"`: "a", `" a "`: " a ", `"a,b(c)"`: "a,b(c)", "\"`\"": "`", `"//"`: "//", `"\""`: `"`, `"\\"`: `\`, `"\\\""`: `\"`, `"a\\b\"c"`: `a\b"c`, `"\\n"`: `\n`, `" ~"`: " ~",
		"``": "", "`a`": "a", "` a `": " a ", "`\"`": `"`, "`\\`": `\`, "`\\\\`": `\\`, "`\\\"`": `\"`, "`\\n`": `\n`, "`//,()`": "//,()", "` ~`": " ~",
	} {
		told(t, s, Line{Num: 1, Words: quoted(want)})
		told(t, s+" "+s+"// x", Line{Num: 1, Words: quoted(want, want), Comment: "x"})
		refused(t, s+"a", api.ErrToken, 1)
		refused(t, s+s, api.ErrToken, 1)
		refused(t, s+"/", api.ErrToken, 1)
		refused(t, s+"/a", api.ErrToken, 1)
		refused(t, s+",", api.ErrToken, 1)
		refused(t, "a"+s, api.ErrToken, 1)
	}
	for _, s := range []string{
		`"`, `"a`, `"\`, `"\"`, `"\\\"`, `"\n"`, `"\a"`, `"\`, `"a\ "`, "\"\\`\"", "\"a\x1f\"", "\"\t\"", "\"\r\"", "\"\x7f\"", "\"\u00e9\"", "\"\\\x01\"",
		"`", "`a", "`\\", "`\t`", "`\r`", "`\x1f`", "`\x7f`", "`\u00e9`", "```", "`a`b`", `"a" b"`, `"a"""`, "\"a`", "`a\"",
	} {
		refused(t, s, api.ErrToken, 1)
	}
	refused(t, "\"a\nb\"", api.ErrToken, 1)
	refused(t, "`a\nb`", api.ErrToken, 1)
}

// Each byte alone, in a word, and in quotes of both kinds.
func TestLinesAllBytes(t *testing.T) {
	for c := range 256 {
		s := string([]byte{byte(c)})
		if c >= 0x21 && c <= 0x7E && !strings.Contains("\"(),`", s) {
			told(t, s, Line{Num: 1, Words: plain(s)})
			told(t, "a"+s+"b", Line{Num: 1, Words: plain("a" + s + "b")})
		} else if !strings.Contains(" \t\r\n()", s) {
			refused(t, s, api.ErrToken, 1)
			refused(t, "a"+s+"b", api.ErrToken, 1)
		}
		inside := c >= 0x20 && c <= 0x7E
		for _, quote := range []string{"\"", "`"} {
			in := "\n" + quote + "a" + s + "b" + quote
			if inside && s != quote && in != "\n\"a\\b\"" {
				told(t, in, Line{Num: 2, Words: quoted("a" + s + "b")})
			} else {
				refused(t, in, api.ErrToken, 2)
			}
		}
		escaped := "\"\\" + s + "\""
		if s == "\"" || s == "\\" {
			told(t, escaped, Line{Num: 1, Words: quoted(s)})
		} else {
			refused(t, escaped, api.ErrToken, 1)
		}
	}
}

func TestLinesFirstFault(t *testing.T) {
	refused(t, "a\nb,\nc", api.ErrToken, 2)
	refused(t, "a\n\n// ,\n,\n\"", api.ErrToken, 4)
	refused(t, ",\n"+strings.Repeat("a\n", 200), api.ErrToken, 1)
}

// Lines that say nothing count, too.
func TestLinesMany(t *testing.T) {
	for _, line := range []string{"a\n", "\n", "// a\n"} {
		full := strings.Repeat(line, api.MaxLines-1)
		if _, f := Lines(full + line); f != (api.Fault{}) {
			t.Errorf("%q: %v", line, f)
		}
		if l, f := Lines(full + "b"); f != (api.Fault{}) || !reflect.DeepEqual(l[len(l)-1], Line{Num: 100, Words: plain("b")}) {
			t.Errorf("%q: %v, %v", line, l, f)
		}
		refused(t, full+line+"\n", api.ErrMany, 101)
		refused(t, full+line+" ", api.ErrMany, 101)
		refused(t, full+line+"b", api.ErrMany, 101)
		refused(t, full+line+",", api.ErrMany, 101)
		refused(t, full+line+strings.Repeat("b\n", 500), api.ErrMany, 101)
		refused(t, full+line+"a\n,\n", api.ErrMany, 101)
		refused(t, full+",\n", api.ErrToken, 100)
		refused(t, full+",\nb\n", api.ErrToken, 100)
	}
}

// model reads a line sign by sign, by the state that it is in: 'b' between
// words, 'p', 'q', 'r' in a plain, a quoted, a raw one, 'e' behind a backslash,
// 'w' right behind a word, 'x' behind a parenthesis.
func model(s string) (Line, bool) {
	var l Line
	var text string
	state := 'b'
	put := func(quoted bool) {
		l.Words = append(l.Words, Word{text, quoted})
		text = ""
	}
	for i := range len(s) {
		c := s[i]
		inQuotes := state == 'q' || state == 'e' || state == 'r'
		if !inQuotes && (c == ' ' || c == '\t' || c == '\r' || c == '(' || c == ')' || strings.HasPrefix(s[i:], "//")) {
			if state == 'p' {
				put(false)
			}
			switch {
			case c == '/':
				l.Comment = strings.Trim(s[i+2:], " \t\r")
				return l, true
			case c == '(' || c == ')':
				if state == 'x' {
					return Line{}, false
				}
				l.Open, l.Close = c == '(', c == ')'
				state = 'x'
			case state != 'x':
				state = 'b'
			}
			continue
		}
		switch {
		case c < 0x20 || c > 0x7E || state == 'w' || state == 'x':
			return Line{}, false
		case state == 'b' && c == '"':
			state = 'q'
		case state == 'b' && c == '`':
			state = 'r'
		case state == 'q' && c == '"' || state == 'r' && c == '`':
			put(true)
			state = 'w'
		case state == 'q' && c == '\\':
			state = 'e'
		case state == 'e' && c != '"' && c != '\\':
			return Line{}, false
		case state == 'e':
			text += string(rune(c))
			state = 'q'
		case inQuotes:
			text += string(rune(c))
		case c == '"' || c == '`' || c == ',':
			return Line{}, false
		default:
			text += string(rune(c))
			state = 'p'
		}
	}
	if state == 'p' {
		put(false)
	}
	return l, state != 'q' && state != 'e' && state != 'r'
}

// modelLines is Lines, told by the model.
func modelLines(s string) ([]Line, api.Fault) {
	all := strings.Split(s, "\n")
	if all[len(all)-1] == "" {
		all = all[:len(all)-1]
	}
	var told []Line
	for i, line := range all {
		l, ok := model(line)
		if i == 100 {
			return nil, api.Fault{E: api.ErrMany, Line: 101}
		}
		if !ok {
			return nil, api.Fault{E: api.ErrToken, Line: i + 1}
		}
		l.Num = i + 1
		if len(l.Words) > 0 || l.Open || l.Close {
			told = append(told, l)
		}
	}
	return told, api.Fault{}
}

func TestLinesAllTexts(t *testing.T) {
	l := slices.Concat(texts("a/\"\\`( ", 6), texts("a/\"`)(, \n\x01\xff", 5))
	for _, s := range l {
		want, wantF := modelLines(s)
		if got, f := Lines(s); f != wantF || !same(got, want) {
			t.Fatalf("Lines(%q): %+v, %v, not %+v, %v", s, got, f, want, wantF)
		}
	}
}

func TestPlain(t *testing.T) {
	for _, s := range []string{"a", "!", "~", "/", "/a/b/", "=>", "\\", "a\\", "v1.0.0", "[", "'", strings.Repeat("a/", 1000)} {
		if !Plain(s) {
			t.Errorf("Plain(%q)", s)
		}
	}
	for _, s := range []string{"", " ", "a ", " a", "a b", "a\tb", "\n", "\r", "//", "a//", "//a", "a//b", "a///b", "\"", "(", ")", "`", ",", "a,b", "a(", "\x00", "\x20", "\x7f", "\u00e9", "a\xff"} {
		if Plain(s) {
			t.Errorf("Plain(%q)", s)
		}
	}
	// A text of a line is a plain word just if the line has it alone, as it is.
	for _, s := range texts("a/\"\\(, \xff", 5) {
		l, _ := modelLines(s)
		is := len(l) == 1 && same(l, []Line{{Num: 1, Words: plain(s)}})
		if Plain(s) != is {
			t.Fatalf("Plain(%q): %v", s, !is)
		}
	}
}

func TestQuote(t *testing.T) {
	for s, want := range map[string]string{
		"": `""`, "a": `"a"`, "a b": `"a b"`, `"`: `"\""`, `\`: `"\\"`, `\"`: `"\\\""`, `"\`: `"\"\\"`, `a\\b""c`: `"a\\\\b\"\"c"`, "`": "\"`\"", "\n\x00\u00e9\xff": "\"\n\x00\u00e9\xff\"",
	} {
		if q := Quote(s); q != want {
			t.Errorf("Quote(%q): %q, not %q", s, q, want)
		}
	}
}

func TestWrite(t *testing.T) {
	for s, want := range map[string]string{
		"a": "a", "a/b": "a/b", `\`: `\`, "=>": "=>", "": `""`, " ": `" "`, "a b": `"a b"`, "a//b": `"a//b"`, "//": `"//"`, "(": `"("`, "a,": `"a,"`, "`": "\"`\"", `"`: `"\""`, `a"\`: `"a\"\\"`, "\t": "\"\t\"", "\u00e9": "\"\u00e9\"",
	} {
		if w := Write(s); w != want {
			t.Errorf("Write(%q): %q, not %q", s, w, want)
		}
	}
}

// What is written is read back, alone and among others.
func TestWriteRead(t *testing.T) {
	var visible []byte
	for c := 0x20; c <= 0x7E; c++ {
		visible = append(visible, byte(c))
	}
	l := slices.Concat(texts("a/\"\\`(), ", 4), texts(string(visible), 2), []string{string(visible), strings.Repeat(`\"`, 1000)})
	for _, s := range l {
		w := Word{Text: s, Quoted: !Plain(s)}
		told(t, Write(s), Line{Num: 1, Words: []Word{w}})
		told(t, "a "+Write(s)+"\t"+Write(s)+" // x", Line{Num: 1, Words: []Word{{Text: "a"}, w, w}, Comment: "x"})
		told(t, Quote(s), Line{Num: 1, Words: quoted(s)})
	}
}

// No two lists of one answer share memory, spare room too.
func TestLinesApart(t *testing.T) {
	s := strings.Repeat("a b c\n\"d\" `e` f g h (\n)\n", 10)
	l, _ := Lines(s)
	for i := range l {
		words := l[i].Words
		words = words[:cap(words)]
		for k := range words {
			words[k] = Word{Text: "other"}
		}
		want, _ := Lines(s)
		if !same(l[i+1:], want[i+1:]) {
			t.Fatalf("the words of line %d are those of another one", i)
		}
	}
}

// Nobody goes on reading when the call has answered, also if much is left.
func TestLinesJoined(t *testing.T) {
	before := runtime.NumGoroutine()
	for range 200 {
		refused(t, ","+strings.Repeat("\na", 500), api.ErrToken, 1)
		refused(t, strings.Repeat("a\n", 500), api.ErrMany, 101)
		told(t, "a\nb", Line{Num: 1, Words: plain("a")}, Line{Num: 2, Words: plain("b")})
	}
	// One that has said that it is done may still be on its way out.
	for range 1000 {
		if runtime.NumGoroutine() <= before {
			return
		}
		time.Sleep(time.Millisecond)
	}
	t.Errorf("%d goroutines, not %d", runtime.NumGoroutine(), before)
}

// Many at once, each with its own answer.
func TestLinesAtOnce(t *testing.T) {
	var all sync.WaitGroup
	for i := range 50 {
		all.Go(func() {
			for range 20 {
				refused(t, strings.Repeat("a b\n", i)+",\n"+strings.Repeat("a\n", i), api.ErrToken, i+1)
			}
		})
	}
	all.Wait()
}
