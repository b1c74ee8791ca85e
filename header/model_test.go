package header

import (
	"math/rand"
	"regexp"
	"slices"
	"strings"
	"testing"
	"unicode/utf8"

	"graftbed/api"
	"graftbed/paths"
	"graftbed/scan"
)

// turns of the model's grammar: a state, the tokens that may come there, the
// state behind them.
var turns = strings.Fields(`
	start   P        package
	package PIN      named
	named   ;        top
	top     I        import
	import  PIN_.    name
	import  T        end
	import  (        block
	name    T        end
	end     ;        top
	block   PIN_.    inname
	block   T        inend
	block   )        end
	inname  T        inend
	inend   ;        block
	inend   )        end`)

// letter is a token's letter in the grammar; a text's only if it may be a path.
func letter(t scan.Token) string {
	switch {
	case t.Kind == 1:
		at := slices.Index([]string{"package", "import", "_"}, t.Text)
		return []string{"N", "P", "I", "_"}[at+1]
	case t.Kind == 2 && (t.Text == "C" || paths.Import(t.Text) == api.OK):
		return "T"
	case t.Kind == 3 && t.Text == "\n":
		return ";"
	case t.Kind == 3 && strings.Contains("().;", t.Text):
		return t.Text
	}
	return "?"
}

// turn is the state behind a token; none, if it does not fit.
func turn(state string, t scan.Token) string {
	for i := 0; i < len(turns); i += 3 {
		if turns[i] == state && strings.Contains(turns[i+1], letter(t)) {
			return turns[i+2]
		}
	}
	return ""
}

// grammar reads s token by token: the package and the imports, the comments
// ahead of the package's token, that token, and the line of the last semicolon.
func grammar(s string) (h Header, ahead []scan.Token, first scan.Token, last int, bad api.Fault) {
	x, bad := scan.New(s)
	state, name := "start", ""
	for bad == (api.Fault{}) {
		var t scan.Token
		if t, bad = x.Next(); bad != (api.Fault{}) {
			break
		}
		if t.Kind == 4 {
			if state == "start" {
				ahead = append(ahead, t)
			}
			continue
		}
		next := turn(state, t)
		switch {
		case next == "" && state == "top":
			return h, ahead, first, last, bad
		case next == "":
			bad = api.Fault{E: api.ErrClause, Line: t.Line}
		case state == "start":
			first = t
		case state == "package":
			h.Package = t.Text
		case next == "top":
			last = t.Line
		case next == "name" || next == "inname":
			name = t.Text
		case t.Kind == 2:
			h.Imports = append(h.Imports, Import{name, t.Text, t.Line})
			name = ""
		}
		state = next
	}
	return Header{}, nil, scan.Token{}, 0, bad
}

// The patterns of lines and comments that say something.
var (
	beginsSo    = regexp.MustCompile(`^(\x{FEFF})?[ \t\r]*//`)
	saysBuild   = regexp.MustCompile(`^//go:build[ \t]([^\n]*)$`)
	saysPlus    = regexp.MustCompile(`^//[ \t]*\+build([ \t][^\n]*)?$`)
	asksEmbed   = regexp.MustCompile(`^//go:embed[ \t]([^\n]*)$`)
	saysNothing = regexp.MustCompile(`^[ \t\r]*$`)
)

// model reads s by the grammar's table and by patterns of lines.
func model(s string) (Header, api.Fault) {
	h, ahead, first, last, bad := grammar(s)
	if bad != (api.Fault{}) {
		return Header{}, bad
	}
	lines := strings.Split(s, "\n")
	builds := 0
	for _, c := range ahead {
		if !beginsSo.MatchString(lines[c.Line-1]) {
			continue
		}
		if m := saysBuild.FindStringSubmatch(c.Text); m != nil {
			h.Build = strings.Trim(m[1], " \t")
			if builds++; builds == 2 {
				return Header{}, api.Fault{E: api.ErrAgain, Line: c.Line}
			}
		}
		if m := saysPlus.FindStringSubmatch(c.Text); m != nil && slices.ContainsFunc(lines[c.Line:first.Line-1], saysNothing.MatchString) {
			h.Plus = append(h.Plus, strings.Trim(m[1], " \t"))
		}
	}
	for i, line := range lines {
		if m := asksEmbed.FindStringSubmatch(line); m != nil && i+1 > last {
			h.Embeds = append(h.Embeds, Embed{strings.Trim(m[1], " \t\r"), i + 1})
		}
	}
	return h, bad
}

// likeModel fails unless the header of s is the model's; it tells the error.
func likeModel(t *testing.T, s string) api.Errno {
	t.Helper()
	want, fault := model(s)
	h, bad := Parse(s)
	if bad != fault || !same(h, want) {
		t.Errorf("%q: %+v, %v, not %+v, %v", s, h, bad, want, fault)
	}
	return bad.E
}

// rows tells all rows of at most n of the parts.
func rows(parts []string, n int) []string {
	all := []string{""}
	for from := 0; n > 0; n-- {
		to := len(all)
		for _, s := range all[from:to] {
			for _, p := range parts {
				all = append(all, s+p)
			}
		}
		from = to
	}
	return all
}

func TestModelTokens(t *testing.T) {
	for _, s := range rows([]string{"package ", "import ", "p ", "_ ", ";", "\n", "\"a\"", "// c\n", "("}, 5) {
		likeModel(t, s)
	}
	for _, s := range rows([]string{"import ", "x ", ".", "_ ", "\"a\"", "`-`", "(", ")", ";", "\n"}, 5) {
		likeModel(t, "package p;"+s)
	}
	for _, s := range rows([]string{"x ", ".", "\"a\"", "\n", ")", "import", "/*\n*/"}, 6) {
		likeModel(t, "package p;import("+s)
	}
}

func TestModelRemarks(t *testing.T) {
	for _, s := range rows([]string{"//go:build ", "// +build x", "\n", "/*", "*/", " ", "\r", "\ufeff"}, 6) {
		likeModel(t, s+"\npackage p")
	}
	for _, s := range rows([]string{"//", "go:build", "+build", " ", "\t", "\r", "x", "\n"}, 6) {
		likeModel(t, s+"\n\npackage p")
	}
	for _, s := range rows([]string{"//go:embed", " ", "\r", "x", "\n", ";", "`", "/*"}, 6) {
		likeModel(t, "package p"+s)
	}
}

// chance is texts of these parts, by a fixed seed.
func chance(turns int, parts []string, use func(s string)) {
	r := rand.New(rand.NewSource(11))
	for range turns {
		var s strings.Builder
		for range r.Intn(12) {
			s.WriteString(parts[r.Intn(len(parts))])
		}
		use(s.String())
	}
}

// Sources of parts that fit, and of some that don't: each error, and none, has
// to come often.
func TestModelSources(t *testing.T) {
	ahead := []string{"//go:build x\n", "// +build y\n", "// c\n", "\n", " \r\n", "/* d */", "/*\n\n*/", "/*\n//e*/", "\t", "// +build\n"}
	declared := []string{"import \"a\"\n", "import x `b/c`;", "import (\n\t\"d\"\n\t. \"C\"\n)\n", "import();", "import(_ \"e\");", "// f\n", "\n", "/* g\n*/", "//go:embed h\n", " "}
	wrong := []string{"import \"-\"\n", "import (\n", "import \"\n"}
	behind := []string{"x", "var y\n", "\n", "//go:embed z\r\n", "//go:embed\n", " ", "`", "\"", "import \"i\"\n", "//go:build j\n", "// +build k\n"}
	var heads, ends []string
	chance(3000, ahead, func(s string) { heads = append(heads, s) })
	chance(3001, behind, func(s string) { ends = append(ends, s) })
	met := map[api.Errno]int{}
	at := 0
	use := func(s string) {
		head, end := heads[at%len(heads)], ends[at%len(ends)]
		met[likeModel(t, head+"package p\n"+s+end)]++
		likeModel(t, mark+head+"package p;"+end)
		at++
	}
	chance(20000, declared, use)
	chance(10000, slices.Concat(declared, wrong), use)
	for _, e := range []api.Errno{api.OK, api.ErrClause, api.ErrSource, api.ErrAgain} {
		if met[e] < 1000 {
			t.Errorf("%d came %d times", e, met[e])
		}
	}
}

// All calls end at all texts, and answer the same again.
func TestTotal(t *testing.T) {
	var parts []string
	for c := range 256 {
		parts = append(parts, string([]byte{byte(c)}))
	}
	for range 10 {
		parts = append(parts, "package p\n", "import ", "\"a\"", "//go:build ", "\n", "//go:embed ")
	}
	chance(20000, parts, func(s string) {
		if e := likeModel(t, s); e != api.ErrSource && (!utf8.ValidString(s) || strings.Contains(s, "\x00")) {
			t.Errorf("%q: %d", s, e)
		}
		if h, bad := Parse(s); bad == (api.Fault{}) {
			again, _ := Parse(s)
			h.Imports, h.Plus, h.Embeds = append(h.Imports, Import{}), append(h.Plus, ""), append(h.Embeds, Embed{})
			told(t, s, again)
		}
	})
	for _, part := range []string{"(", "import (", "\"a\";", "x ", ";", "\n", "/**/", "// +build x\n", "//go:embed x\n", "import \"a\"\n", "import(\"a\"\n)\n"} {
		many := strings.Repeat(part, 500)
		for _, ahead := range []string{"", "package p;", "package p;import ("} {
			likeModel(t, ahead+many)
			likeModel(t, many+ahead)
		}
	}
}
