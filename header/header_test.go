package header

import (
	"fmt"
	"reflect"
	"slices"
	"strings"
	"testing"

	"graftbed/api"
	"graftbed/paths"
)

const mark = "\xef\xbb\xbf"

// same tells whether the headers are the same, lists without elements too.
func same(a, b Header) bool {
	return a.Package == b.Package && a.Build == b.Build &&
		slices.Equal(a.Imports, b.Imports) && slices.Equal(a.Plus, b.Plus) && slices.Equal(a.Embeds, b.Embeds)
}

// told fails unless s has that header.
func told(t *testing.T, s string, want Header) {
	t.Helper()
	if h, bad := Parse(s); bad != (api.Fault{}) || !same(h, want) {
		t.Errorf("%q: %+v, %v, not %+v", s, h, bad, want)
	}
}

// refused fails unless s has that fault, and nothing beside it.
func refused(t *testing.T, s string, e api.Errno, line int) {
	t.Helper()
	if h, bad := Parse(s); bad != (api.Fault{E: e, Line: line}) || !reflect.DeepEqual(h, Header{}) {
		t.Errorf("%q: %+v, %v, not %d in line %d", s, h, bad, e, line)
	}
}

// imported fails unless s is of package p and has these imports, and nothing else.
func imported(t *testing.T, s string, want ...Import) {
	t.Helper()
	told(t, s, Header{Package: "p", Imports: want})
}

// P11.1

func TestExample(t *testing.T) {
	told(t, "//go:build x\n\npackage a\nimport \"b\"\n", Header{Package: "a", Imports: []Import{{"", "b", 4}}, Build: "x"})
}

func TestSource(t *testing.T) {
	told(t, "// Copyright\n\n//go:build linux && !cgo\n// +build linux\n// +build !cgo\n\n// Package p does.\npackage p\n\nimport (\n\t\"fmt\"\n\n\tx \"a.b/c\" // d\n)\n\nimport _ \"embed\"\n\n//go:embed e f*\nvar s string\n",
		Header{
			Package: "p",
			Imports: []Import{{"", "fmt", 11}, {"x", "a.b/c", 13}, {"_", "embed", 16}},
			Build:   "linux && !cgo",
			Plus:    []string{"linux", "!cgo"},
			Embeds:  []Embed{{"e f*", 18}},
		})
}

// Whatever New refuses is its fault, ahead of all else.
func TestNewFault(t *testing.T) {
	for _, wrong := range []string{"\xff", "\x00", "\xed\xa0\x80", "\xc0\x80"} {
		refused(t, wrong, api.ErrSource, 1)
		refused(t, "package p\nvar x = 1\n// "+wrong, api.ErrSource, 3)
		refused(t, "package _\n"+wrong, api.ErrSource, 2)
		refused(t, "x\n\n\""+wrong, api.ErrSource, 3)
		refused(t, "//go:build a\n//go:build b\npackage p\n"+wrong, api.ErrSource, 4)
	}
}

func TestClause(t *testing.T) {
	for _, name := range []string{"p", "P9", "__", "_p", "p_", "\u00e9", "\u65e5\u672c", "package", "import", "func", "main", "C"} {
		for _, s := range []string{"package %s", "package %s\n", "package %s\r\n", "package %s;", " \t\n\npackage\t%s ;", "package %s// c", "package/**/%s/* c */;", "/* c\n*/package %s\n", mark + "package %s", "package %s /* c\n*/", "package %s /**/ // c\n"} {
			told(t, fmt.Sprintf(s, name), Header{Package: name})
		}
	}
	for s, line := range map[string]int{
		"": 1, "\n\n": 3, "// package p": 1, "// package p\n": 2, "/*\n*/": 2, "p": 1, "Package p": 1, "packages p": 1, "\"package\" p": 1, "`package` p": 1, ";package p": 1, "\npackage": 2, "package;": 1, "package 7": 1,
		"package\np": 1, "package // c\np": 1, "package /*\n*/ p": 1, "package /* */\np": 1, "package \"p\"": 1, "package `p`": 1, "package .": 1, "package (p)": 1, "\n\npackage _": 3, "package _;": 1, "package _ x": 1,
		"package p q": 1, "package p.q": 1, "package p(": 1, "package p \"q\"": 1, "package p import \"a\"": 1, "package p /* \n */ q\n;": 0, "package p, q": 1, "import \"a\"": 1, " " + mark + "package p": 1, mark + mark + "package p": 1, "\n" + mark + "package p": 2,
	} {
		if line > 0 {
			refused(t, s, api.ErrClause, line)
		} else {
			told(t, s, Header{Package: "p"})
		}
	}
}

func TestImports(t *testing.T) {
	for name, written := range map[string]string{"": "", "x": "x ", "_": "_ ", ".": ".", "\u00e9": "\u00e9", "import": "import ", "package": "package\t", "X9_": "X9_/* c */"} {
		for _, path := range []string{"\"a\"", "`a`", "\"\\x61\"", "\"\\141\"", "`\ra\r`"} {
			i := written + path
			want := func(line int) Import { return Import{name, "a", line} }
			imported(t, "package p;import "+i, want(1))
			imported(t, "package p\nimport "+i+"\n", want(2))
			imported(t, "package p;import "+i+";func", want(1))
			imported(t, "package p;import("+i+")", want(1))
			imported(t, "package p;import("+i+";);", want(1))
			imported(t, "package p\n\nimport (\n\t"+i+"\n)\n", want(4))
			imported(t, "package p\n// c\nimport ( // c\n// c\n"+i+" // c\n/* c\n */) // c\n/*c\n*/import/**/("+i+"/*c\n*/)", want(5), want(9))
			imported(t, "package p;import "+i+";import "+i+"\nimport ("+i+";"+i+"\n"+i+")", want(1), want(1), want(2), want(2), want(3))
		}
	}
	for _, s := range []string{"import()", "import(\n\n)\n", "import () // c", "import (/*\n*/)\nimport ()\nimport()"} {
		imported(t, "package p;"+s)
	}
}

// The line of an import is that in which its text begins.
func TestImportLine(t *testing.T) {
	imported(t, "package p;import .\n\n\"a\"", Import{".", "a", 3})
	imported(t, "package p;import (.\n`b`\n.// c\n\"d\")", Import{".", "b", 2}, Import{".", "d", 4})
	imported(t, "package p\nimport (\n`C`)", Import{"", "C", 3})
	// Behind a name a line's end is a token.
	refused(t, "package p\nimport x\n\"a\"", api.ErrClause, 2)
	refused(t, "package p\nimport\n\"a\"", api.ErrClause, 2)
	refused(t, "package p\nimport (\nx\n\"a\")", api.ErrClause, 3)
}

func TestImportPaths(t *testing.T) {
	for _, path := range []string{"C", "a", "a.b/c", "A+b~/c_d/9", "fmt", "go/ast", strings.Repeat("a", 30) + "/" + strings.Repeat("b", 29)} {
		imported(t, "package p;import \""+path+"\"", Import{"", path, 1})
		imported(t, "package p\nimport (\n\"a\"\nx `"+path+"`)", Import{"", "a", 3}, Import{"x", path, 4})
	}
	for _, path := range []string{"", ".", "..", "./a", "../a", "/a", "a/", "a//b", "a/./b", "-a", "a/-b", ".a", "a.", "a/b.", "a b", "a\tb", "a@b", "\u00e9", "a\\\\b", "a\\nb", "a\\x00", "c:a", "a*", strings.Repeat("a", 31), strings.Repeat("a/", 30) + "a"} {
		if e := paths.Import(path); e != api.ErrPath {
			t.Errorf("%q: %d", path, e)
		}
		refused(t, "package p\nimport \""+path+"\"", api.ErrClause, 2)
		refused(t, "package p\nimport x \""+path+"\" y", api.ErrClause, 2)
		refused(t, "package p\nimport (\n\"a\"\n.\n\n\""+path+"\"\n)", api.ErrClause, 6)
	}
	refused(t, "package p;import `a\nb`\n", api.ErrClause, 1)
	refused(t, "package p;import `\n\n`\n", api.ErrClause, 1)
}

func TestDeclarationFaults(t *testing.T) {
	for s, line := range map[string]int{
		"": 2, ";": 2, "7": 2, ")": 2, "x": 2, "x;": 2, "x y": 2, "x .": 2, ". x": 2, ". . \"a\"": 2, "..\"a\"": 2, "x y \"a\"": 2, "\"a\" \"b\"": 2, "\"a\" x": 2, "\"a\".": 2, "\"a\"(": 2, "\"a\")": 2, "\"a\",\"b\"": 2, "\"a\" /* \n */": 0, "\"a\" import \"b\"": 2, "import": 2, "import (": 2, "import (\"a\")": 2,
		"(": 2, "(\n\n": 4, "(;)": 2, "(\n;\n)": 3, "(\"a\"": 2, "(\"a\"\n": 3, "(\"a\";;)": 2, "(\"a\"\n;)": 3, "(\"a\" \"b\")": 2, "(\n\"a\"; \"b\" \"c\")": 3, "(\"a\",\"b\")": 2, "(x)": 2, "(x;)": 2, "(.)": 2, "((\"a\"))": 2, "(\n(\"a\"))": 3, "()()": 2, "())": 2, "() x": 2, "(\"a\") \"b\"": 2, "() ()": 2, "(import \"a\"": 2, "x (\"a\")": 2, ".(\"a\")": 2, "(\n7)": 3,
	} {
		if line > 0 {
			refused(t, "package p\nimport "+s, api.ErrClause, line)
		} else {
			imported(t, "package p\nimport "+s, Import{"", "a", 2})
		}
	}
}

// The token that does not fit is the fault; none behind it is asked for.
func TestFirstFault(t *testing.T) {
	for _, wrong := range []string{"\"", "`", "/*", "\"\\q\""} {
		refused(t, wrong, api.ErrSource, 1)
		refused(t, "x "+wrong, api.ErrClause, 1)
		refused(t, "\npackage "+wrong, api.ErrSource, 2)
		refused(t, "\npackage _\n"+wrong, api.ErrClause, 2)
		refused(t, "package 7 "+wrong, api.ErrClause, 1)
		refused(t, "package p "+wrong, api.ErrSource, 1)
		refused(t, "package p q\n"+wrong, api.ErrClause, 1)
		refused(t, "package p\n"+wrong, api.ErrSource, 2)
		refused(t, "package p\n// c\n"+wrong, api.ErrSource, 3)
		told(t, "package p;;"+wrong, Header{Package: "p"})
		told(t, "package p\nvar "+wrong, Header{Package: "p"})
		told(t, "package p\nimport `a`;x "+wrong, Header{Package: "p", Imports: []Import{{"", "a", 2}}})
		refused(t, "package p\nimport "+wrong, api.ErrSource, 2)
		refused(t, "package p\nimport 7 "+wrong, api.ErrClause, 2)
		refused(t, "package p\nimport \"-\" "+wrong, api.ErrClause, 2)
		refused(t, "package p\nimport \"a\" "+wrong, api.ErrSource, 2)
		refused(t, "package p\nimport \"a\"\n"+wrong, api.ErrSource, 3)
		refused(t, "package p\nimport (\n\"a\"\n"+wrong, api.ErrSource, 4)
		refused(t, "package p\nimport (\n\"a\"\n)\n"+wrong, api.ErrSource, 5)
	}
	refused(t, "package _\nimport \"-\"", api.ErrClause, 1)
	refused(t, "package p\nimport \"-\"\nimport 7", api.ErrClause, 2)
}

// P11.2

// remarked fails unless the source of the package p has that build line and
// those elder ones, and nothing else.
func remarked(t *testing.T, s, build string, plus ...string) {
	t.Helper()
	told(t, s, Header{Package: "p", Build: build, Plus: plus})
}

func TestBuild(t *testing.T) {
	for s, want := range map[string]string{
		"//go:build x": "x", "//go:build\tx": "x", "//go:build \t x \t": "x", "//go:build a && (b||!c)": "a && (b||!c)", "//go:build // c": "// c", "//go:build a // b": "a // b", "//go:build \u00e9": "\u00e9", "//go:build a\tb": "a\tb",
		"//go:build x\r": "x", "//go:build x \r": "x", "//go:build x\r\r": "x\r", "//go:build \rx": "\rx", "//go:build x\r \r": "x\r",
		"//go:build": "", "//go:build ": "", "//go:build\t\r": "", "//go:build\r": "", "//go:build\rx": "", "//go:buildx": "", "//go:build(x)": "", "//go:build: x": "", "// go:build x": "", "//\tgo:build x": "", "///go:build x": "", "//go: build x": "", "//GO:build x": "", "//go:embed x": "", "//build x": "",
		"/*go:build x*/": "", "/*\n//go:build x\n*/": "", "/* //go:build x */": "", "// //go:build x": "", "/*//go:build x*/": "",
	} {
		for _, around := range []string{"%s\npackage p\n", "%s\n\n\npackage p", "// c\n\n%s\n\n// d\npackage p", "/* c */\n/* d\n*/\n%s\n/* e */package p", " \t\r%s\npackage p", mark + "%s\npackage p", mark + " \r\t%s\npackage p", "\n\r\n%s\npackage p", "%s\n// go:build y\n//go:buildy\n/* //go:build y */ package p"} {
			remarked(t, strings.Replace(around, "%s", s, 1), want)
		}
	}
}

// Two build lines are one too many, also if they say the same, or nothing.
func TestBuildAgain(t *testing.T) {
	for _, a := range []string{"//go:build x", "//go:build\tx", "//go:build ", "//go:build x\r"} {
		for _, b := range []string{"//go:build x", " \t//go:build y", "//go:build \t"} {
			refused(t, a+"\n"+b+"\npackage p", api.ErrAgain, 2)
			refused(t, "// c\n"+a+"\n\n/* d\n*/\n"+b+"\n"+a+"\n"+b+"\npackage p\nimport \"a\"\n", api.ErrAgain, 6)
			refused(t, mark+a+"\n"+b+"\npackage p", api.ErrAgain, 2)
			remarked(t, "//go:build z\n/* c */ "+b+"\npackage p\n"+a+"\n"+b, "z")
		}
	}
	// P11.1 names its faults ahead, and without a package nothing stands ahead of it.
	again := "//go:build x\n//go:build x\n"
	refused(t, again, api.ErrClause, 3)
	refused(t, again+"package _", api.ErrClause, 3)
	refused(t, again+"package p\nimport \"-\"", api.ErrClause, 4)
	refused(t, again+"package p\n\"", api.ErrSource, 4)
	refused(t, again+"/*", api.ErrSource, 3)
}

func TestPlus(t *testing.T) {
	for s, want := range map[string]string{
		"// +build x": "x", "//+build x": "x", "//\t \t+build\tx": "x", "// +build \t x y,!z \t": "x y,!z", "// +build": "", "//+build": "", "// +build \t": "", "// +build x\r": "x", "// +build\r": "", "// +build \r": "", "// +build x\r\r": "x\r", "// +build \rx": "\rx", "// +build // c": "// c", "// +build +build": "+build",
	} {
		remarked(t, s+"\n\npackage p\n", "", want)
		remarked(t, s+"\n \t\r\npackage p\n", "", want)
		remarked(t, mark+" \r\t"+s+"\n\npackage p\n", "", want)
		remarked(t, "// c\n\n\t"+s+"\n// +build y\n/* d */\n"+s+"\n//go:build z\n// e\n\n// f\npackage p", "z", want, "y", want)
		remarked(t, s+"\npackage p\n\n", "")
		remarked(t, "\n\n"+s+"\n// c\n/* d */package p", "")
		remarked(t, "package p\n"+s+"\n\n", "")
		remarked(t, "package /**/ p "+s+"\n"+s+"\n\n", "")
	}
	for _, s := range []string{"// +buildx", "// +build\rx", "// + build x", "// build x", "//+ build", "/// +build x", "// // +build x", "/* +build x */", "/*+build x*/", "//go:build+build x", "// +Build x", "//\r+build x", "//\u00a0+build x", "// +build\r\r"} {
		remarked(t, s+"\n\npackage p\n", "")
	}
	remarked(t, "/*\n// +build x\n\n*/\n\npackage p", "")
}

// Only what stands ahead of an empty line is told, of whatever that is a part.
func TestPlusEmptyLine(t *testing.T) {
	remarked(t, "// +build a\n\n// +build b\n// +build c\n\n// +build d\npackage p", "", "a", "b", "c")
	remarked(t, "// +build a\n//\n// \npackage p", "")
	remarked(t, "// +build a\n/*\n*/\npackage p", "")
	remarked(t, "// +build a\n/*\n\n*/ package p", "", "a")
	remarked(t, "// +build a\n/* c */ /* d\n \t\r\n*/ // +build b\npackage p", "", "a")
	remarked(t, "\n\n// +build a\n\u0009package p", "")
	remarked(t, "// +build a\n\npackage p", "", "a")
	remarked(t, "// +build a\n/*\n\v\n*/package p", "")
}

// The line of a comment begins with its two signs, even if these are another's.
func TestRemarkLine(t *testing.T) {
	for _, ahead := range []string{"/* c */ ", "/**/", " /**/\t", "/*\n*/", "/* c\n d */ ", "/*\n/**/"} {
		remarked(t, ahead+"//go:build x\n\npackage p", "")
		remarked(t, ahead+"// +build y\n\npackage p", "")
		remarked(t, "// c\n"+ahead+"//go:build x\n"+ahead+"// +build y\n\npackage p", "")
		remarked(t, "//go:build w\n"+ahead+"//go:build x\npackage p", "w")
	}
	for _, ahead := range []string{"/*\n//*/", "/* c\n// d */ ", "/*\n \r\t//\t*/ /* e */\t", "/*\n\n///**/"} {
		remarked(t, ahead+"//go:build x\n\npackage p", "x")
		remarked(t, ahead+"// +build y\n\npackage p", "", "y")
		remarked(t, ahead+"//go:build x\n"+ahead+"// +build y\n\npackage p", "x", "y")
		refused(t, "//go:build w\n"+ahead+"//go:build x\npackage p", api.ErrAgain, 2+strings.Count(ahead, "\n"))
	}
	// A carriage return ends no line.
	remarked(t, "/* c */\r//go:build x\r\npackage p", "")
	remarked(t, "// c\r//go:build x\npackage p", "")
}

// P11.3

// embeds fails unless the source of the package p asks for that alone, but
// for what it imports.
func embeds(t *testing.T, s string, want ...Embed) {
	t.Helper()
	h, bad := Parse(s)
	if bad != (api.Fault{}) || !same(h, Header{Package: "p", Imports: h.Imports, Embeds: want}) {
		t.Errorf("%q: %+v, %v, not %+v", s, h, bad, want)
	}
}

func TestEmbed(t *testing.T) {
	for s, want := range map[string]string{
		"//go:embed x": "x", "//go:embed\tx": "x", "//go:embed x y": "x y", "//go:embed \t x\ty \t": "x\ty", "//go:embed ": "", "//go:embed\t": "", "//go:embed \r": "", "//go:embed x\r": "x", "//go:embed x\r\r \r": "x", "//go:embed \r\rx": "x", "//go:embed x\ry": "x\ry",
		"//go:embed \"x y\" `z`": "\"x y\" `z`", "//go:embed x // c": "x // c", "//go:embed \u00e9": "\u00e9", "//go:embed //go:embed": "//go:embed", "//go:embed \v": "\v",
	} {
		embeds(t, "package p\n"+s, Embed{want, 2})
		embeds(t, "package p\n"+s+"\n", Embed{want, 2})
		embeds(t, "package p\nimport \"a\"\n\n"+s+"\nvar x\n\n"+s+"\n"+s, Embed{want, 4}, Embed{want, 7}, Embed{want, 8})
		embeds(t, s+"\npackage p "+s)
		embeds(t, mark+s+"\npackage p "+s)
	}
	for _, s := range []string{"//go:embed", "//go:embed\r", "//go:embed\rx", "//go:embedx", "//go:embed(x)", " //go:embed x", "\t//go:embed x", "\r//go:embed x", "// go:embed x", "///go:embed x", "/*go:embed x*/", "//go: embed x", "var x //go:embed x", "//go:Embed x", "//go:embed\u00a0x", "//go:embed\vx", "//go:build x", mark + "//go:embed x"} {
		embeds(t, "package p\n"+s+"\n")
		embeds(t, "package p\nimport \"a\"\n"+s)
	}
}

// Embeds stand behind the line of the last semicolon, in whatever there is.
func TestEmbedWhere(t *testing.T) {
	e := "//go:embed x"
	for s, line := range map[string]int{
		"package p;\n?": 2, "package p // c\n?": 2, "package p /*\n?\n*/": 2, "package p // c\n/*\n?\n*/": 3, "package p\n;\n?": 3, "package p\n\n?\n;import \"a\"": 3, "package p;var x = `\n?\n`": 2, "package p\nvar x\n'\n?": 4, "package p\n\"a\n?": 0,
		"package p\nimport \"a\"\n?": 3, "package p\nimport \"a\" /*\n?\n*/": 3, "package p\nimport (\n\"a\"\n)\n?": 5, "package p;import(`a`);x\n?": 2, "package p\nimport ()\n?": 3, "package p\n\n?\nimport \"a\"": -1, "package p\nimport (\n?\n\"a\")": -1, "package p\nimport (\n\"a\"\n?\n)": -1, "package p\nimport \"a\"\n?\nimport \"b\"\n": -1, "package p\nimport \"a\"\n?\nimports": 3,
		"?\npackage p": -1, "package p /* c */ ?": -1, "package p\nimport (`a`); ?": -1, "package /*\n?\n*/ p": 0, "package p /*\n?\n*/ ; import \"a\"": 2, "/*\n?\n*/ package p": -1, "package p\nimport . `a`/*\n*/;\n?": 4,
	} {
		s = strings.ReplaceAll(s, "?", e)
		switch {
		case line > 0:
			embeds(t, s, Embed{"x", line})
		case line < 0:
			embeds(t, s)
		default:
			if h, bad := Parse(s); bad == (api.Fault{}) || !reflect.DeepEqual(h, Header{}) {
				t.Errorf("%q: %+v", s, h)
			}
		}
	}
}

// P11.4

func TestPaths(t *testing.T) {
	h := Header{Imports: []Import{{"x", "b", 9}, {"", "a/b", 2}, {"", "C", 3}, {"_", "b", 1}, {"C", "a", 0}, {".", "a-b", 4}, {"", "", 5}, {"", "c", 6}, {"", "B", 7}, {"", "C", 8}, {"", "C/d", 8}}, Embeds: []Embed{{"e", 1}}}
	before := Header{Imports: slices.Clone(h.Imports), Embeds: slices.Clone(h.Embeds)}
	for range 2 {
		if l := Paths(h); !slices.Equal(l, []string{"", "B", "C/d", "a", "a-b", "a/b", "b", "c"}) {
			t.Errorf("%q", l)
		}
	}
	if !reflect.DeepEqual(h, before) {
		t.Errorf("%+v", h)
	}
	for _, h := range []Header{{}, {Imports: []Import{{Path: "C"}, {Path: "C", Name: "a"}}}, {Package: "a", Build: "b", Plus: []string{"c"}}} {
		if l := Paths(h); len(l) != 0 {
			t.Errorf("%+v: %q", h, l)
		}
	}
}

// All lists of few imports, against a set.
func TestPathsAll(t *testing.T) {
	lists := [][]Import{nil}
	for from := 0; len(lists) < 5000; {
		to := len(lists)
		for _, l := range lists[from:to] {
			for _, path := range []string{"a", "C", "c", "B", "a/b"} {
				lists = append(lists, append(slices.Clone(l), Import{Path: path, Line: len(l)}))
			}
		}
		from = to
	}
	for _, l := range lists {
		var want []string
		for _, path := range []string{"B", "a", "a/b", "c"} {
			if slices.ContainsFunc(l, func(i Import) bool { return i.Path == path }) {
				want = append(want, path)
			}
		}
		if got := Paths(Header{Imports: l}); !slices.Equal(got, want) {
			t.Errorf("%+v: %q, not %q", l, got, want)
		}
	}
}

// P11.5

// What stands behind the imports, and is no fault of scan's, changes nothing.
func TestNothingBehind(t *testing.T) {
	heads := []string{"package p\n", "package p;", "//go:build x\n// +build y\n\npackage p\nimport \"a\"\n", "package p;import(\"a\";x `b`\n);", "package p\nimport()\n", "package p // c\n"}
	behind := []string{"x", "func f() {}", "imports \"b\"", "_import \"b\"", "\"import\" \"b\"", "; import \"b\"", "\n;\nimport \"b\"\n", "var import \"b\"", "package q", "// import \"b\"", "/* import \"b\" */", "/*\nimport \"b\"\n*/", "// c\n\n", "7 \"", "x `\n", "x /*", "(\"b\")", ". \"b\"", "`import` x", "\n//go:build z\n// +build z\n\n", "\n//go:build z\n//go:build z\n", "'\n//go:embedded\n", "\n //go:embed x\n"}
	for _, head := range heads {
		want, bad := Parse(head)
		if bad != (api.Fault{}) {
			t.Errorf("%q: %v", head, bad)
		}
		for _, more := range behind {
			told(t, head+more, want)
			told(t, head+"/* c */"+more, want)
		}
		if h, bad := Parse(head + "import \"z\""); bad != (api.Fault{}) || len(h.Imports) != len(want.Imports)+1 {
			t.Errorf("%q: %+v, %v", head, h, bad)
		}
	}
}
