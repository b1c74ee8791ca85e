package gomod

import (
	"reflect"
	"regexp"
	"slices"
	"strings"
	"testing"

	"graftbed/api"
	"graftbed/lex"
)

// texts tells all texts of at most n of the signs.
func texts(signs string, n int) []string {
	all := []string{""}
	for from := 0; n > 0; n-- {
		to := len(all)
		for _, s := range all[from:to] {
			for i := range len(signs) {
				all = append(all, s+signs[i:i+1])
			}
		}
		from = to
	}
	return all
}

func TestRelease(t *testing.T) {
	for _, s := range []string{"1.0", "1.1", "1.9", "1.10", "1.21", "1.999999999"} {
		if !Release(s) {
			t.Errorf("Release(%q): false", s)
		}
	}
	for _, s := range []string{
		"", "1", "1.", ".1", "0.1", "2.0", "11.1", "01.1", "1.00", "1.01", "1.1000000000", "1.0000000000", "v1.1", "1.1.0", "1.1.1", "1.1.", "1..1",
		"1.1-a", "1.1+a", "1.1.0-a", "1.1.0+a", "1.1.0-a+b", "1.1rc1", "1.-1", "1.+1", "1.1 ", " 1.1", "1.1\n", "1.1_0", "1.0x1", "1.\u0661", "1.a",
		strings.Repeat("1.", 2000), "1." + strings.Repeat("1", 4000),
	} {
		if Release(s) {
			t.Errorf("Release(%q): true", s)
		}
	}
}

func TestReleaseAllTexts(t *testing.T) {
	form := regexp.MustCompile(`\A1\.(0|[1-9][0-9]{0,8})\z`)
	all := texts("012.-+v", 6)
	for c := range 256 {
		b := string([]byte{byte(c)})
		all = append(all, b+"1.2", "1"+b+"2", "1."+b, "1."+b+"2", "1.2"+b, "1.2.3"+b, "1.2.3-"+b)
	}
	for _, s := range all {
		if Release(s) != form.MatchString(s) {
			t.Fatalf("Release(%q): %v", s, Release(s))
		}
	}
}

func TestLocal(t *testing.T) {
	for _, s := range []string{
		"./", "../", "././", "../../", "./a", "../a", "./a/b", "../../a/b", ".././a", "./../a", "./.a", "./a.", "./..a", "./...", "./A+b,(c)=[d]", "./-",
		"./" + strings.Repeat("a", 30), "./" + strings.Repeat("a/", 29) + "aa", strings.Repeat("../", 1000), strings.Repeat("./", 1000) + strings.Repeat("a/", 29) + "aa",
	} {
		if !Local(s) {
			t.Errorf("Local(%q): false", s)
		}
	}
	for _, s := range []string{
		"", ".", "..", "/", "a", "a.b/c", "/a", ".a", "..a", ".../", ".../a", "a/./b", "./.", "./..", "../..", "../.", ".//", "./ /", ".//a", "./a/", "./a//b", "./a/./b", "./a/..", "./a/../b", "./a b", "./a\n",
		"./a:b", "./a*", "./a?", "./a\"", "./a`", "./a\\b", "./a|b", "./<", "./>", "./\x7f", "./\u00e4", " ./a", ".\\a", "~/a",
		"./" + strings.Repeat("a", 31), "./" + strings.Repeat("a/", 30) + "a",
	} {
		if Local(s) {
			t.Errorf("Local(%q): true", s)
		}
	}
}

func TestLocalAllTexts(t *testing.T) {
	form := regexp.MustCompile(`\A(\.\.?/)+(E(/E)*)?\z`)
	form = regexp.MustCompile(strings.ReplaceAll(form.String(), "E", `(?:\.*a[.a]*|\.{3,})`))
	for _, s := range texts("./a", 9) {
		if Local(s) != form.MatchString(s) {
			t.Fatalf("Local(%q): %v", s, Local(s))
		}
	}
}

const sample = `// ahead
module a.b // what it is

go 1.20

require c.d v1.0.0
require (
	"e.f/v2" v2.1.0 // indirect

	` + "g.h `v0.0.0-a` //indirect; why" + `
	i.j v3.0.0+incompatible // indirectly
	k.l v1.0.0 // not indirect
	m.n v1.0.0 // indirect ;
) // end

exclude c.d v1.1.0
exclude ( // of these
	c.d v1.2.0
	e.f/v2 v2.1.0
)
replace c.d => ../c
replace c.d v1.0.0 => o.p v0.1.0 // indirect
replace (
	"e.f/v2" => ` + "`./x (y),z`" + `
	g.h "v0.0.0-a" => "../"
	"i.j" => q.r/v9 v9.9.9
)
`

// A directory that may not be: of a blank.
const badSample = "`./x (y),z`"

func TestParse(t *testing.T) {
	if _, bad := Parse(sample); bad != (api.Fault{E: api.ErrPath, Line: 24}) {
		t.Fatal(bad)
	}
	s := strings.ReplaceAll(sample, badSample, "`./x(y),z`") + "retract v1.0.0 // broken\r\nretract (\n\t[v1.1.0 v1.2.0] //\t too, // see\tthere \n\tv0.9.0\n\t\"v0.8.0\" // x\n\t[v0.1.0 v0.1.0]\n)"
	want := File{
		Module: "a.b",
		Go:     "1.20",
		Requires: []Require{
			{Mod: api.Mod{Path: "c.d", Version: "v1.0.0"}},
			{Mod: api.Mod{Path: "e.f/v2", Version: "v2.1.0"}, Indirect: true},
			{Mod: api.Mod{Path: "g.h", Version: "v0.0.0-a"}, Indirect: true},
			{Mod: api.Mod{Path: "i.j", Version: "v3.0.0+incompatible"}},
			{Mod: api.Mod{Path: "k.l", Version: "v1.0.0"}},
			{Mod: api.Mod{Path: "m.n", Version: "v1.0.0"}},
		},
		Replaces: []Replace{
			{Old: api.Mod{Path: "c.d"}, New: api.Mod{Path: "../c"}},
			{Old: api.Mod{Path: "c.d", Version: "v1.0.0"}, New: api.Mod{Path: "o.p", Version: "v0.1.0"}},
			{Old: api.Mod{Path: "e.f/v2"}, New: api.Mod{Path: "./x(y),z"}},
			{Old: api.Mod{Path: "g.h", Version: "v0.0.0-a"}, New: api.Mod{Path: "../"}},
			{Old: api.Mod{Path: "i.j"}, New: api.Mod{Path: "q.r/v9", Version: "v9.9.9"}},
		},
		Excludes: []api.Mod{{Path: "c.d", Version: "v1.1.0"}, {Path: "c.d", Version: "v1.2.0"}, {Path: "e.f/v2", Version: "v2.1.0"}},
		Retracts: []Retract{
			{Low: "v1.0.0", High: "v1.0.0", Why: "broken"},
			{Low: "v1.1.0", High: "v1.2.0", Why: "too, // see\tthere"},
			{Low: "v0.9.0", High: "v0.9.0"},
			{Low: "v0.8.0", High: "v0.8.0", Why: "x"},
			{Low: "v0.1.0", High: "v0.1.0"},
		},
	}
	f, bad := Parse(s)
	if bad != (api.Fault{}) || !reflect.DeepEqual(f, want) {
		t.Errorf("%+v, %v", f, bad)
	}
	if e := Check(f); e != api.OK {
		t.Error(e)
	}
}

func TestParseLeast(t *testing.T) {
	for _, s := range []string{
		"module a.b", "\n\n// x\n\tmodule\ta.b\t//", "module \"a.b\"", "module `a.b`//x", "require (\n)\nmodule a.b", "module a.b\nretract(\n)\nretract (\n//\n\n) // x\nreplace (\n)\nexclude (\n)",
	} {
		f, bad := Parse(s)
		if bad != (api.Fault{}) || !reflect.DeepEqual(f, File{Module: "a.b"}) {
			t.Errorf("Parse(%q): %+v, %v", s, f, bad)
		}
	}
}

// What may stand beside one another.
func TestParseNotAgain(t *testing.T) {
	for _, s := range []string{
		"require a.b v1.0.0\nrequire a.b/c v1.0.0\nrequire a.b/v2 v2.0.0",
		"exclude a.b v1.0.0\nexclude a.b v1.0.1\nexclude a.c v1.0.0",
		"replace a.b => ./c\nreplace a.b v1.0.0 => ./c\nreplace a.b v1.0.1 => ./c\nreplace a.c => ./c\nreplace a.c v1.0.0 => ./c",
		"retract v1.0.0\nretract v1.0.0\nretract [v1.0.0 v1.0.0]\nretract [v0.1.0 v2.0.0]\nretract v9.0.0+incompatible",
		"require a.b v1.0.0\nexclude a.b v1.0.0\nreplace a.b v1.0.0 => a.b v1.0.0\nretract v1.0.0",
		"retract [v2.0.0+incompatible v2.0.0]\nretract [v2.0.0 v2.0.0+incompatible]",
	} {
		if f, bad := Parse("module a.b\n" + s); bad != (api.Fault{}) || Check(f) != api.OK {
			t.Errorf("Parse(%q): %v", s, bad)
		}
	}
}

// faulty fails unless Parse of s has the fault, and nothing beside it.
func faulty(t *testing.T, s string, e api.Errno, line int) {
	t.Helper()
	f, bad := Parse(s)
	if bad != (api.Fault{E: e, Line: line}) || !reflect.DeepEqual(f, File{}) {
		t.Errorf("Parse(%q): %v, not %d in line %d", s, bad, e, line)
	}
}

func TestParseLexFault(t *testing.T) {
	faulty(t, "module a.b\nrequire a,b\njump", api.ErrToken, 2)
	faulty(t, "jump\nmodule a,b", api.ErrToken, 2)
	faulty(t, "module a.b"+strings.Repeat("\n", 100)+"x", api.ErrMany, 101)
	faulty(t, "jump"+strings.Repeat("\n", 100)+"x", api.ErrMany, 101)
	faulty(t, "require () \n", api.ErrToken, 1)
	if _, bad := Parse("module a.b" + strings.Repeat("\n", 100)); bad != (api.Fault{}) {
		t.Error(bad)
	}
}

func TestParseVerb(t *testing.T) {
	for _, s := range []string{"jump", "Module a.b", "modules a.b", "\"module\" a.b", "`go` 1.2", "\"require\" a.b v1.0.0", "a.b v1.0.0", "\"\"", "=>", "mod ule", "\"retract\" v1.0.0", "toolchain go1.2"} {
		faulty(t, "\n"+s, api.ErrVerb, 2)
		faulty(t, "module a.b\nrequire (\n)\n"+s+"\n(", api.ErrVerb, 4)
	}
}

func TestParseBlock(t *testing.T) {
	for _, s := range []string{"(", "module (", "go (", "jump (", "\"require\" (", "`retract` (", "module a.b (", "\"\" (", "jump a (", "a require ("} {
		faulty(t, "// x\n"+s+"\nrequire (", api.ErrVerb, 2)
	}
	for _, name := range []string{"require", "exclude", "replace", "retract"} {
		faulty(t, name+" x (\n)", api.ErrWords, 1)
		faulty(t, name+" "+name+" (\n)", api.ErrWords, 1)
		faulty(t, name+" \"\" (\n)", api.ErrWords, 1)
		faulty(t, name+" (", api.ErrWords, 1)
		faulty(t, "module a.b\n\n"+name+" (\n\n// x\n", api.ErrWords, 3)
		faulty(t, name+" (\n(\n)", api.ErrWords, 2)
		faulty(t, name+" (\n"+name+" (\n)", api.ErrWords, 2)
		faulty(t, name+" (\njump (\n)", api.ErrWords, 2)
		faulty(t, name+" (\nx )\n)", api.ErrWords, 2)
		faulty(t, name+" (\n\"\" )\n)", api.ErrWords, 2)
		faulty(t, name+" (\n)\n)", api.ErrWords, 3)
	}
	faulty(t, ")", api.ErrWords, 1)
	faulty(t, "jump )", api.ErrWords, 1)
	faulty(t, "module a.b )", api.ErrWords, 1)
	faulty(t, "module a.b\n\"module\" )", api.ErrWords, 2)
	faulty(t, "require (\na.b v1.0.0\n\nc.d v1.0.0\n// x\n", api.ErrWords, 4)
	// Each line of a block is a thing, with the block's verb ahead.
	faulty(t, "require (\nrequire a.b v1.0.0\n)", api.ErrWords, 2)
	faulty(t, "require (\nmodule a.b\n)", api.ErrPath, 2)
	faulty(t, "exclude (\na.b\n)", api.ErrWords, 2)
	faulty(t, "replace (\n=> ./c\n)", api.ErrWords, 2)
	faulty(t, "replace (\nreplace => ./c\n)", api.ErrPath, 2)
	faulty(t, "retract (\n[v1.1.0 v1.0.0]\n)", api.ErrVersion, 2)
	faulty(t, "require (\na.b v1.0.0\n)\nrequire a.b v1.0.0", api.ErrAgain, 4)
	faulty(t, "require a.b v1.0.0\nrequire (\n\na.b v1.1.0\n)", api.ErrAgain, 4)
}

func TestParseEnd(t *testing.T) {
	faulty(t, "", api.ErrNone, 0)
	faulty(t, "\n// x\n", api.ErrNone, 0)
	faulty(t, "go 1.2\nrequire a.b v1.0.0", api.ErrNone, 0)
	faulty(t, "require (\n)", api.ErrNone, 0)
}

func TestParseWords(t *testing.T) {
	for s, e := range map[string]api.Errno{
		"module":                          api.ErrWords,
		"module a.b a.b":                  api.ErrWords,
		"module a b":                      api.ErrWords,
		"module a":                        api.ErrPath,
		"module \"\"":                     api.ErrPath,
		"module A.b":                      api.ErrPath,
		"module ./a":                      api.ErrPath,
		"go":                              api.ErrWords,
		"go 1.2 1.3":                      api.ErrWords,
		"go 1":                            api.ErrVersion,
		"go 1.2.3":                        api.ErrVersion,
		"go v1.2":                         api.ErrVersion,
		"go \"\"":                         api.ErrVersion,
		"require":                         api.ErrWords,
		"require a.b":                     api.ErrWords,
		"require a.b v1.0.0 x":            api.ErrWords,
		"require a v1.0":                  api.ErrPath,
		"require ./a v1.0.0":              api.ErrPath,
		"require a.b v1.0":                api.ErrVersion,
		"require a.b \"\"":                api.ErrVersion,
		"require a.b v1.0.0+m":            api.ErrVersion,
		"require a.b v2.0.0+m":            api.ErrVersion,
		"require a.b v2.0.0":              api.ErrMajor,
		"require a.b/v2 v1.0.0":           api.ErrMajor,
		"require a.b v1.0.0+incompatible": api.ErrMajor,
		"exclude":                         api.ErrWords,
		"exclude a.b":                     api.ErrWords,
		"exclude a.b v1.0.0 v1.0.1":       api.ErrWords,
		"exclude a v1":                    api.ErrPath,
		"exclude a.b v1":                  api.ErrVersion,
		"exclude a.b \"\"":                api.ErrVersion,
		"exclude a.b v3.0.0":              api.ErrMajor,
		"replace":                         api.ErrWords,
		"replace =>":                      api.ErrWords,
		"replace a.b":                     api.ErrWords,
		"replace a.b =>":                  api.ErrWords,
		"replace => ./c":                  api.ErrWords,
		"replace a.b ./c":                 api.ErrWords,
		"replace a.b v1.0.0 x => ./c":     api.ErrWords,
		"replace a.b => c.d v1.0.0 x":     api.ErrWords,
		"replace a.b => c.d => v1.0.0":    api.ErrWords,
		"replace a.b \"=>\" ./c":          api.ErrWords,
		"replace a.b =>./c":               api.ErrWords,
		"replace a.b=> ./c":               api.ErrWords,
		"replace => => ./c":               api.ErrWords,
		"replace a => c":                  api.ErrPath,
		"replace a v1 => ./c":             api.ErrPath,
		"replace a.b => a.c":              api.ErrPath,
		"replace a.b => /c":               api.ErrPath,
		"replace a.b => =>":               api.ErrPath,
		"replace a.b => \"\"":             api.ErrPath,
		"replace a.b => => v1.0.0":        api.ErrPath,
		"replace a.b => ./c v1.0.0":       api.ErrPath,
		"replace a.b => ./c \"\"":         api.ErrPath,
		"replace \"=>\" => ./c":           api.ErrPath,
		"replace ./a => ./c":              api.ErrPath,
		"replace a.b v1 => c":             api.ErrVersion,
		"replace a.b \"\" => c":           api.ErrVersion,
		"replace a.b \"\" => ./c":         api.ErrVersion,
		"replace a.b \"=>\" => ./c":       api.ErrVersion,
		"replace a.b => c.d \"\"":         api.ErrVersion,
		"replace a.b => c.d v1.0.0+m":     api.ErrVersion,
		"replace a.b => c.d =>":           api.ErrVersion,
		"replace a.b v2.0.0 => c":         api.ErrMajor,
		"replace a.b => c.d v2.0.0":       api.ErrMajor,
		"replace a.b/v2 v1.0.0 => ./c":    api.ErrMajor,
		"retract":                         api.ErrWords,
		"retract v1.0.0 v1.1.0":           api.ErrWords,
		"retract [v1.0.0 v1.1.0":          api.ErrWords,
		"retract v1.0.0 v1.1.0]":          api.ErrWords,
		"retract v1.0.0] [v1.1.0":         api.ErrWords,
		"retract \"[v1.0.0\" v1.1.0]":     api.ErrWords,
		"retract [v1.0.0 \"v1.1.0]\"":     api.ErrWords,
		"retract [ v1.0.0 v1.1.0 ]":       api.ErrWords,
		"retract [v1.0.0 v1.1.0] x":       api.ErrWords,
		"retract [v1.0.0 v1.1.0 ]":        api.ErrWords,
		"retract [v1.0 v1.1":              api.ErrWords,
		"retract v1.0":                    api.ErrVersion,
		"retract \"\"":                    api.ErrVersion,
		"retract v1.0.0+m":                api.ErrVersion,
		"retract [v1.0.0]":                api.ErrVersion,
		"retract \"[v1.0.0 v1.1.0]\"":     api.ErrVersion,
		"retract [ ]":                     api.ErrVersion,
		"retract [v1.0.0 ]":               api.ErrVersion,
		"retract [ v1.0.0]":               api.ErrVersion,
		"retract [[v1.0.0 v1.1.0]":        api.ErrVersion,
		"retract [v1.0.0 v1.1.0]]":        api.ErrVersion,
		"retract [v1.0.0] v1.1.0]":        api.ErrVersion,
		"retract [v1.1.0 v1.0.0]":         api.ErrVersion,
		"retract [v1.0.0 v1.0.0-a]":       api.ErrVersion,
		"retract [v1.0.0+m v1.1.0]":       api.ErrVersion,
		"retract [v1.0.0 v1.1.0+m]":       api.ErrVersion,
	} {
		faulty(t, "\n"+s, e, 2)
		name, rest, _ := strings.Cut(s, " ")
		if opens(name) && rest != "" {
			faulty(t, name+" (\n"+rest+" // indirect\n)", e, 2)
		}
	}
}

func TestParseAgain(t *testing.T) {
	for _, s := range []string{
		"module a.b\nmodule a.b", "module a.b\nmodule c.d", "go 1.2\ngo 1.2", "go 1.2\ngo 1.3",
		"require a.b v1.0.0\nrequire a.b v1.0.0", "require a.b v1.0.0\nrequire \"a.b\" v1.1.0 // indirect",
		"exclude a.b v1.0.0\nexclude a.b v1.0.0",
		"replace a.b => ./c\nreplace a.b => ./c", "replace a.b => ./c\nreplace a.b => c.d v1.0.0",
		"replace a.b v1.0.0 => ./c\nreplace a.b v1.0.0 => ./d",
	} {
		faulty(t, s, api.ErrAgain, 2)
	}
	// Words' errors stand ahead of it.
	faulty(t, "module a.b\nmodule", api.ErrWords, 2)
	faulty(t, "module a.b\nmodule a", api.ErrPath, 2)
	faulty(t, "go 1.2\ngo 2", api.ErrVersion, 2)
	faulty(t, "require a.b v1.0.0\nrequire a.b v1", api.ErrVersion, 2)
	faulty(t, "require a.b v1.0.0\nrequire a.b v2.0.0", api.ErrMajor, 2)
	faulty(t, "replace a.b => ./c\nreplace a.b => c", api.ErrPath, 2)
	faulty(t, "replace a.b => ./c\nreplace a.b => c.d v2.0.0", api.ErrMajor, 2)
	faulty(t, "replace a.b => ./c\nreplace a.b \"\" => ./c", api.ErrVersion, 2)
}

// Words of a thing, each of them a letter of the model's forms.
func vocabulary() map[byte]string {
	return map[byte]string{
		'P': "a.b", 'Q': "a.b/v2", 'p': "\"a.b\"",
		'V': "v1.0.0", 'W': "v2.0.0", 'v': "`v1.0.0`", 'N': "v1.0.0+m",
		'A': "=>", 'a': "\"=>\"", 'E': "\"\"", 'L': "./c",
		'B': "[v1.0.0", 'b': "\"[v1.0.0\"", 'H': "v1.1.0]", 'h': "v0.9.0]", 'R': "1.2",
	}
}

func matches(form, s string) bool {
	return regexp.MustCompile(`\A(?:` + form + `)\z`).MatchString(s)
}

// Versions and releases could be module paths too: these have a dot.
const somePath = "[PQpVWvR]"

// modelMod is the error of a letter of a path and one of a version.
func modelMod(s string) api.Errno {
	switch {
	case !matches(somePath+".", s):
		return api.ErrPath
	case !matches(".[VWv]", s):
		return api.ErrVersion
	case !matches("[^Q][Vv]|QW", s):
		return api.ErrMajor
	}
	return api.OK
}

// model is the error of a thing, told by the forms of its letters.
func model(name, s string) api.Errno {
	form := map[string]string{"module": ".", "go": ".", "require": "..", "exclude": "..", "replace": "[^A][^A]?A..?", "retract": ".|B[Hh]"}[name]
	if !matches(form, s) {
		return api.ErrWords
	}
	switch name {
	case "module":
		if !matches(somePath, s) {
			return api.ErrPath
		}
	case "go":
		if !matches("R", s) {
			return api.ErrVersion
		}
	case "require", "exclude":
		return modelMod(s)
	case "replace":
		old, by, _ := strings.Cut(s, "A")
		if len(old) == 1 && !matches(somePath, old) {
			return api.ErrPath
		}
		if e := modelMod(old); len(old) == 2 && e != api.OK {
			return e
		}
		if len(by) == 1 && by != "L" {
			return api.ErrPath
		}
		if len(by) == 2 {
			return modelMod(by)
		}
	case "retract":
		if !matches("[VWv]|BH", s) {
			return api.ErrVersion
		}
	}
	return api.OK
}

func held(t *testing.T, name, letters string) {
	t.Helper()
	words := vocabulary()
	s := name
	for i := range len(letters) {
		s += " " + words[letters[i]]
	}
	want := api.Fault{E: model(name, letters), Line: 1}
	if want.E == api.OK && name == "module" {
		want = api.Fault{}
	} else if want.E == api.OK {
		// No module was told beside it.
		want = api.Fault{E: api.ErrNone}
	}
	if _, bad := Parse(s); bad != want {
		t.Fatalf("Parse(%q): %v, not %v", s, bad, want)
	}
	f, bad := Parse("module x.y\n" + s)
	if want.E == api.ErrNone && (bad != (api.Fault{}) || Check(f) != api.OK) {
		t.Fatalf("Parse(%q): %v, checked %d", s, bad, Check(f))
	}
}

// All things of few words of each verb.
func TestParseAllThings(t *testing.T) {
	for name := range verbs() {
		for _, letters := range texts("PQpVWvNAaELBbHhR", 3) {
			held(t, name, letters)
		}
	}
	for _, letters := range texts("PVWAEL", 6) {
		held(t, "replace", letters)
	}
}

// Each line says one thing, and unlike verbs may stand in any order.
func TestParseOrder(t *testing.T) {
	groups := []string{
		"module a.b\n", "go 1.2\n",
		"require c.d v1.0.0 // indirect\nrequire (\ne.f v1.0.0\n)\n",
		"replace c.d => ./x\nreplace c.d v1.0.0 => ./y\n",
		"exclude c.d v1.0.0\nexclude c.d v1.1.0\n",
		"retract v1.0.0 // x\nretract [v0.1.0 v0.2.0]\n",
	}
	want, bad := Parse(strings.Join(groups, ""))
	if bad != (api.Fault{}) {
		t.Fatal(bad)
	}
	var permute func(left []string, s string)
	permute = func(left []string, s string) {
		if len(left) == 0 {
			if f, bad := Parse(s); bad != (api.Fault{}) || !reflect.DeepEqual(f, want) {
				t.Errorf("Parse(%q): %+v, %v", s, f, bad)
			}
		}
		for i, g := range left {
			permute(slices.Delete(slices.Clone(left), i, i+1), s+g)
		}
	}
	permute(groups, "")
	mixed := "require c.d v1.0.0 // indirect\nretract v1.0.0 // x\nexclude c.d v1.0.0\nreplace c.d => ./x\ngo 1.2\nretract [v0.1.0 v0.2.0]\nexclude c.d v1.1.0\nmodule a.b\nrequire e.f v1.0.0\nreplace c.d v1.0.0 => ./y\n"
	if f, bad := Parse(mixed); bad != (api.Fault{}) || !reflect.DeepEqual(f, want) {
		t.Errorf("%+v, %v", f, bad)
	}
}

func mod(path, version string) api.Mod { return api.Mod{Path: path, Version: version} }

func TestCheck(t *testing.T) {
	well := mod("a.b", "v1.0.0")
	for i, x := range []struct {
		f    File
		want api.Errno
	}{
		{File{}, api.ErrPath},
		{File{Module: "a"}, api.ErrPath},
		{File{Module: "a", Go: "x"}, api.ErrPath},
		{File{Module: "a.b"}, api.OK},
		{File{Module: "a.b", Go: "1.2"}, api.OK},
		{File{Module: "a.b", Go: "1"}, api.ErrVersion},
		{File{Module: "a.b", Go: "1.2 "}, api.ErrVersion},
		{File{Module: "a.b", Go: "1", Requires: []Require{{}}}, api.ErrVersion},
		{File{Module: "a.b", Requires: []Require{{}}}, api.ErrPath},
		{File{Module: "a.b", Requires: []Require{{Mod: mod("a.b", "")}}}, api.ErrVersion},
		{File{Module: "a.b", Requires: []Require{{Mod: mod("a.b", "v1.0.0+m")}}}, api.ErrVersion},
		{File{Module: "a.b", Requires: []Require{{Mod: mod("a.b", "v2.0.0")}}}, api.ErrMajor},
		{File{Module: "a.b", Requires: []Require{{Mod: well, Indirect: true}}}, api.OK},
		{File{Module: "a.b", Requires: []Require{{Mod: well}, {Mod: mod("a.b", "v1.1.0"), Indirect: true}}}, api.ErrAgain},
		{File{Module: "a.b", Requires: []Require{{Mod: well}, {Mod: mod("a.c", "v1.1.0")}, {Mod: well}}}, api.ErrAgain},
		{File{Module: "a.b", Requires: []Require{{Mod: well}, {Mod: mod("a.b", "v2.0.0")}}}, api.ErrMajor},
		// From the first one on: what is said again ahead of a wrong word.
		{File{Module: "a.b", Requires: []Require{{Mod: well}, {Mod: well}, {}}}, api.ErrAgain},
		{File{Module: "a.b", Requires: []Require{{Mod: well}, {Mod: well}}, Replaces: []Replace{{}}}, api.ErrAgain},
		{File{Module: "a.b", Replaces: []Replace{{}}}, api.ErrPath},
		{File{Module: "a.b", Replaces: []Replace{{Old: mod("a.b", ""), New: mod("./c", "")}}}, api.OK},
		{File{Module: "a.b", Replaces: []Replace{{Old: well, New: mod("a.c", "v1.0.0")}}}, api.OK},
		{File{Module: "a.b", Replaces: []Replace{{Old: mod("./c", ""), New: mod("./c", "")}}}, api.ErrPath},
		{File{Module: "a.b", Replaces: []Replace{{Old: mod("a.b", "x"), New: mod("c", "")}}}, api.ErrVersion},
		{File{Module: "a.b", Replaces: []Replace{{Old: mod("a.b", "v2.0.0"), New: mod("c", "")}}}, api.ErrMajor},
		{File{Module: "a.b", Replaces: []Replace{{Old: well, New: mod("a.c", "")}}}, api.ErrPath},
		{File{Module: "a.b", Replaces: []Replace{{Old: well, New: mod("", "")}}}, api.ErrPath},
		{File{Module: "a.b", Replaces: []Replace{{Old: well, New: mod("./c", "v1.0.0")}}}, api.ErrPath},
		{File{Module: "a.b", Replaces: []Replace{{Old: well, New: mod("a.c", "v1.0")}}}, api.ErrVersion},
		{File{Module: "a.b", Replaces: []Replace{{Old: well, New: mod("a.c/v2", "v1.0.0")}}}, api.ErrMajor},
		{File{Module: "a.b", Replaces: []Replace{{Old: well, New: mod("./c", "")}, {Old: mod("a.b", ""), New: mod("./c", "")}}}, api.OK},
		{File{Module: "a.b", Replaces: []Replace{{Old: well, New: mod("./c", "")}, {Old: well, New: mod("./d", "")}}}, api.ErrAgain},
		{File{Module: "a.b", Replaces: []Replace{{Old: mod("a.b", ""), New: mod("./c", "")}, {Old: mod("a.b", ""), New: mod("./d", "")}}}, api.ErrAgain},
		{File{Module: "a.b", Replaces: []Replace{{Old: well, New: mod("./c", "")}, {Old: well, New: mod("d", "")}}}, api.ErrPath},
		{File{Module: "a.b", Replaces: []Replace{{Old: well, New: mod("./c", "")}, {Old: well, New: mod("./c", "")}}, Excludes: []api.Mod{{}}}, api.ErrAgain},
		{File{Module: "a.b", Excludes: []api.Mod{{}}}, api.ErrPath},
		{File{Module: "a.b", Excludes: []api.Mod{mod("a.b", "")}}, api.ErrVersion},
		{File{Module: "a.b", Excludes: []api.Mod{mod("a.b", "v2.0.0")}}, api.ErrMajor},
		{File{Module: "a.b", Excludes: []api.Mod{well, mod("a.b", "v1.1.0"), mod("a.c", "v1.0.0")}}, api.OK},
		{File{Module: "a.b", Excludes: []api.Mod{well, mod("a.b", "v1.1.0"), well}}, api.ErrAgain},
		{File{Module: "a.b", Excludes: []api.Mod{well, well}, Retracts: []Retract{{}}}, api.ErrAgain},
		{File{Module: "a.b", Retracts: []Retract{{}}}, api.ErrVersion},
		{File{Module: "a.b", Retracts: []Retract{{Low: "v1.0.0"}}}, api.ErrVersion},
		{File{Module: "a.b", Retracts: []Retract{{High: "v1.0.0"}}}, api.ErrVersion},
		{File{Module: "a.b", Retracts: []Retract{{Low: "v1.0.0", High: "v1.0.0+m"}}}, api.ErrVersion},
		{File{Module: "a.b", Retracts: []Retract{{Low: "v1.0.0+m", High: "v1.0.0"}}}, api.ErrVersion},
		{File{Module: "a.b", Retracts: []Retract{{Low: "v1.0.1", High: "v1.0.0"}}}, api.ErrVersion},
		{File{Module: "a.b", Retracts: []Retract{{Low: "v1.0.1", High: "v1.0.0", Why: " "}}}, api.ErrVersion},
		{File{Module: "a.b", Retracts: []Retract{{Low: "v1.0.0", High: "v2.0.0"}, {Low: "v1.0.0", High: "v2.0.0"}}}, api.OK},
		{File{Module: "a.b", Retracts: []Retract{{Low: "v1.0.0", High: "v1.0.0", Why: " x"}, {}}}, api.ErrWords},
	} {
		if e := Check(x.f); e != x.want {
			t.Errorf("%d: Check(%+v): %d, not %d", i, x.f, e, x.want)
		}
	}
}

func TestCheckWhy(t *testing.T) {
	for why, want := range map[string]api.Errno{
		"": api.OK, "x": api.OK, "x y": api.OK, "x\ty\rz": api.OK, "// x": api.OK, "//": api.OK, "\"": api.OK, "\x00\xff\u00e4": api.OK, "\v": api.OK, "\u00a0": api.OK, "(": api.OK,
		" ": api.ErrWords, "\t": api.ErrWords, "\r": api.ErrWords, "\n": api.ErrWords, " x": api.ErrWords, "x ": api.ErrWords, "\tx": api.ErrWords, "x\t": api.ErrWords, "\rx": api.ErrWords, "x\r": api.ErrWords,
		"x\ny": api.ErrWords, "\nx": api.ErrWords, "x\n": api.ErrWords,
	} {
		f := File{Module: "a.b", Retracts: []Retract{{Low: "v1.0.0", High: "v1.0.0", Why: why}}}
		if e := Check(f); e != want {
			t.Errorf("Check of Why %q: %d, not %d", why, e, want)
		}
		g, bad := Parse("module a.b\nretract v1.0.0 // " + why)
		if want == api.OK && (bad != (api.Fault{}) || !reflect.DeepEqual(f, g)) {
			t.Errorf("Parse of Why %q: %+v, %v", why, g, bad)
		}
	}
}

// written is f as lines, in the order of the fields.
func written(f File) string {
	at := func(m api.Mod) string {
		if m.Version == "" {
			return lex.Quote(m.Path)
		}
		return lex.Quote(m.Path) + " " + lex.Quote(m.Version)
	}
	s := "module " + lex.Quote(f.Module) + "\n"
	if f.Go != "" {
		s += "go " + lex.Quote(f.Go) + "\n"
	}
	for _, r := range f.Requires {
		s += "require " + lex.Quote(r.Mod.Path) + " " + lex.Quote(r.Mod.Version) + "\n"
	}
	for _, r := range f.Replaces {
		s += "replace " + at(r.Old) + " => " + at(r.New) + "\n"
	}
	for _, m := range f.Excludes {
		s += "exclude " + lex.Quote(m.Path) + " " + lex.Quote(m.Version) + "\n"
	}
	for _, r := range f.Retracts {
		s += "retract [" + r.Low + " " + r.High + "]\n"
	}
	return s
}

// Check is the fault of Parse of what is written.
func TestCheckAsParse(t *testing.T) {
	var mods []api.Mod
	for _, p := range []string{"a.b", "a.b/v2", "a", "./c", ""} {
		for _, v := range []string{"", "v1.0.0", "v2.0.0", "v2.0.0+incompatible", "v1.0.0+m", "x"} {
			mods = append(mods, mod(p, v))
		}
	}
	hold := func(f File) {
		t.Helper()
		g, bad := Parse(written(f))
		if e := Check(f); e != bad.E {
			t.Fatalf("Check(%+v): %d, Parse %v", f, e, bad)
		}
		if bad.E == api.OK && !reflect.DeepEqual(f, g) {
			t.Fatalf("Parse of %+v: %+v", f, g)
		}
	}
	for _, a := range mods {
		for _, b := range mods {
			hold(File{Module: "x.y", Requires: []Require{{Mod: a}, {Mod: b}}})
			hold(File{Module: "x.y", Excludes: []api.Mod{a, b}})
			hold(File{Module: "x.y", Requires: []Require{{Mod: a}}, Excludes: []api.Mod{b}})
			hold(File{Module: "x.y", Replaces: []Replace{{Old: a, New: b}}})
			hold(File{Module: "x.y", Replaces: []Replace{{Old: a, New: mod("./c", "")}, {Old: b, New: a}}, Excludes: []api.Mod{b}})
			hold(File{Module: a.Path, Go: "1.2", Retracts: []Retract{{Low: a.Version, High: b.Version}}})
			hold(File{Module: a.Path, Go: a.Version, Requires: []Require{{Mod: b}}, Retracts: []Retract{{Low: b.Version, High: a.Version}}})
		}
	}
}

// What is handed in stays as it is, behind the lists' lengths too.
func TestCheckLeaves(t *testing.T) {
	f, _ := Parse("module a.b\nrequire a.b v1.0.0\nrequire a.c v1.0.0\nreplace a.b => ./c\nreplace a.c => ./c\nexclude a.b v1.0.0\nexclude a.c v1.0.0\nretract v1.0.0\nretract v1.1.0")
	g := f
	g.Requires, g.Replaces, g.Excludes, g.Retracts = slices.Clone(f.Requires), slices.Clone(f.Replaces), slices.Clone(f.Excludes), slices.Clone(f.Retracts)
	if Check(File{Module: "a.b", Requires: g.Requires[:1], Replaces: g.Replaces[:1], Excludes: g.Excludes[:1], Retracts: g.Retracts[:1]}) != api.OK || !reflect.DeepEqual(f, g) {
		t.Errorf("%+v", g)
	}
	if Check(g) != api.OK || !reflect.DeepEqual(f, g) {
		t.Errorf("%+v", g)
	}
}

// Two answers share no list, nor its spare room.
func TestParseApart(t *testing.T) {
	const s = "module a.b\nrequire a.b v1.0.0\nrequire a.c v1.0.0\nrequire a.d v1.0.0\nexclude a.b v1.0.0\nexclude a.c v1.0.0\nexclude a.d v1.0.0\n"
	f, _ := Parse(s)
	g, _ := Parse(s)
	want, _ := Parse(s)
	clear(f.Requires[:cap(f.Requires)])
	clear(f.Excludes[:cap(f.Excludes)])
	if !reflect.DeepEqual(g, want) {
		t.Errorf("%+v", g)
	}
}

func TestExamples(t *testing.T) {
	f, bad := Parse("module x.y\nreplace a.b/c => ../c")
	if bad != (api.Fault{}) || !slices.Equal(f.Replaces, []Replace{{Old: mod("a.b/c", ""), New: mod("../c", "")}}) {
		t.Errorf("%+v, %v", f, bad)
	}
	faulty(t, "require a.b/c v1.0", api.ErrVersion, 1)
}
