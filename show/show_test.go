package show

import (
	"fmt"
	"reflect"
	"slices"
	"strings"
	"testing"

	"graftbed/api"
	"graftbed/gomod"
	"graftbed/lex"
	"graftbed/paths"
	"graftbed/semver"
)

func mod(path, version string) api.Mod { return api.Mod{Path: path, Version: version} }

func need(path, version string) gomod.Require { return gomod.Require{Mod: mod(path, version)} }

func indirect(path, version string) gomod.Require {
	return gomod.Require{Mod: mod(path, version), Indirect: true}
}

// same tells whether two files say the same, with or without nil.
func same(f, g gomod.File) bool {
	return f.Module == g.Module && f.Go == g.Go && slices.Equal(f.Requires, g.Requires) && slices.Equal(f.Replaces, g.Replaces) &&
		slices.Equal(f.Excludes, g.Excludes) && slices.Equal(f.Retracts, g.Retracts)
}

// apart is f with lists of their own.
func apart(f gomod.File) gomod.File {
	f.Requires, f.Replaces = slices.Clone(f.Requires), slices.Clone(f.Replaces)
	f.Excludes, f.Retracts = slices.Clone(f.Excludes), slices.Clone(f.Retracts)
	return f
}

// listsUpTo tells all lists of at most n of the things, some of them many times.
func listsUpTo[T any](n int, things ...T) [][]T {
	all := [][]T{nil}
	for from := 0; n > 0; n-- {
		to := len(all)
		for _, l := range all[from:to] {
			for _, x := range things {
				all = append(all, append(slices.Clone(l), x))
			}
		}
		from = to
	}
	return all
}

// printed fails unless f is printed as want, and that is parsed as f.
func printed(t *testing.T, f gomod.File, want string) {
	t.Helper()
	s, e := Print(f)
	if s != want || e != api.OK {
		t.Errorf("Print(%+v): %q, %d, not %q", f, s, e, want)
	}
	if g, bad := gomod.Parse(s); bad != (api.Fault{}) || !same(f, g) {
		t.Errorf("Parse(%q): %+v, %v, not %+v", s, g, bad, f)
	}
}

func TestPrintExample(t *testing.T) {
	printed(t, gomod.File{Module: "a.b", Requires: []gomod.Require{need("c.d", "v1.0.0")}}, "module a.b\n\nrequire c.d v1.0.0\n")
}

func TestPrintAlone(t *testing.T) {
	printed(t, gomod.File{Module: "a.b"}, "module a.b\n")
	printed(t, gomod.File{Module: "a.b/c~d/v2"}, "module a.b/c~d/v2\n")
	printed(t, gomod.File{Module: "a.b", Go: "1.20"}, "module a.b\n\ngo 1.20\n")
	printed(t, gomod.File{Module: "a.b", Go: "1.0", Requires: []gomod.Require{}, Excludes: []api.Mod{}}, "module a.b\n\ngo 1.0\n")
}

// One thing stands behind its verb, more in a block.
func TestPrintThings(t *testing.T) {
	const ahead = "module a.b\n\n"
	printed(t, gomod.File{Module: "a.b", Requires: []gomod.Require{indirect("c.d", "v0.1.0-pre.1")}}, ahead+"require c.d v0.1.0-pre.1 // indirect\n")
	printed(t, gomod.File{Module: "a.b", Requires: []gomod.Require{indirect("e.f/v2", "v2.0.0"), need("c.d", "v3.0.0+incompatible")}}, ahead+"require (\n\te.f/v2 v2.0.0 // indirect\n\tc.d v3.0.0+incompatible\n)\n")
	printed(t, gomod.File{Module: "a.b", Excludes: []api.Mod{mod("c.d", "v1.0.0")}}, ahead+"exclude c.d v1.0.0\n")
	printed(t, gomod.File{Module: "a.b", Excludes: []api.Mod{mod("c.d", "v1.1.0"), mod("c.d", "v1.0.0"), mod("a.b", "v1.0.0")}}, ahead+"exclude (\n\tc.d v1.1.0\n\tc.d v1.0.0\n\ta.b v1.0.0\n)\n")
	for _, x := range []struct {
		old, by api.Mod
		want    string
	}{
		{mod("c.d", ""), mod("./x", ""), "c.d => ./x"},
		{mod("c.d", ""), mod("e.f", "v1.0.0"), "c.d => e.f v1.0.0"},
		{mod("c.d", "v1.0.0"), mod("../", ""), "c.d v1.0.0 => ../"},
		{mod("c.d", "v1.0.0"), mod("c.d", "v1.0.1"), "c.d v1.0.0 => c.d v1.0.1"},
		{mod("c.d", ""), mod("./x,y", ""), "c.d => \"./x,y\""},
		{mod("c.d", ""), mod("../../(x)/z", ""), "c.d => \"../../(x)/z\""},
		{mod("c.d", "v1.0.0"), mod("./)", ""), "c.d v1.0.0 => \"./)\""},
		{mod("c.d", ""), mod("./x'y[z]=!", ""), "c.d => ./x'y[z]=!"},
	} {
		r := gomod.Replace{Old: x.old, New: x.by}
		last := gomod.Replace{Old: mod("z.z", ""), New: mod("./z", "")}
		printed(t, gomod.File{Module: "a.b", Replaces: []gomod.Replace{r}}, ahead+"replace "+x.want+"\n")
		printed(t, gomod.File{Module: "a.b", Replaces: []gomod.Replace{r, last}}, ahead+"replace (\n\t"+x.want+"\n\tz.z => ./z\n)\n")
	}
}

func TestPrintRetracts(t *testing.T) {
	const ahead = "module a.b\n\n"
	for _, x := range []struct{ low, high, why, want string }{
		{"v1.0.0", "v1.0.0", "", "v1.0.0"},
		{"v1.0.0", "v1.0.0", "broken", "v1.0.0 // broken"},
		{"v1.0.0", "v1.1.0", "", "[v1.0.0 v1.1.0]"},
		{"v1.0.0", "v1.1.0", "all of them", "[v1.0.0 v1.1.0] // all of them"},
		// Alike, and yet not one.
		{"v2.0.0", "v2.0.0+incompatible", "", "[v2.0.0 v2.0.0+incompatible]"},
		{"v2.0.0+incompatible", "v2.0.0", "x", "[v2.0.0+incompatible v2.0.0] // x"},
		{"v2.0.0+incompatible", "v2.0.0+incompatible", "", "v2.0.0+incompatible"},
		{"v1.0.0", "v1.0.0", "// x", "v1.0.0 // // x"},
		{"v1.0.0", "v1.0.0", "/", "v1.0.0 // /"},
		{"v1.0.0", "v1.0.0", "indirect", "v1.0.0 // indirect"},
		{"v1.0.0", "v1.0.0", "a\t\"b\" (c\r,\x00\xff)", "v1.0.0 // a\t\"b\" (c\r,\x00\xff)"},
	} {
		r := gomod.Retract{Low: x.low, High: x.high, Why: x.why}
		printed(t, gomod.File{Module: "a.b", Retracts: []gomod.Retract{r}}, ahead+"retract "+x.want+"\n")
		printed(t, gomod.File{Module: "a.b", Retracts: []gomod.Retract{r, r}}, ahead+"retract (\n\t"+x.want+"\n\t"+x.want+"\n)\n")
	}
}

// wrong is files that may not be, and their errors.
func wrong() map[api.Errno][]gomod.File {
	one := need("c.d", "v1.0.0")
	return map[api.Errno][]gomod.File{
		api.ErrPath: {
			{}, {Module: "a"}, {Module: "a.b", Requires: []gomod.Require{need("c", "v1.0.0")}},
			{Module: "a.b", Replaces: []gomod.Replace{{Old: one.Mod, New: mod("x", "")}}}, {Module: "a.b", Excludes: []api.Mod{{}}},
		},
		api.ErrVersion: {
			{Module: "a.b", Go: "1"}, {Module: "a.b", Requires: []gomod.Require{need("c.d", "")}}, {Module: "a.b", Excludes: []api.Mod{mod("c.d", "v1")}},
			{Module: "a.b", Retracts: []gomod.Retract{{}}}, {Module: "a.b", Retracts: []gomod.Retract{{Low: "v1.1.0", High: "v1.0.0"}}},
		},
		api.ErrMajor: {{Module: "a.b", Requires: []gomod.Require{need("c.d", "v2.0.0")}}},
		api.ErrAgain: {{Module: "a.b", Requires: []gomod.Require{one, one}}, {Module: "a.b", Excludes: []api.Mod{one.Mod, one.Mod}}},
		api.ErrWords: {
			{Module: "a.b", Retracts: []gomod.Retract{{Low: "v1.0.0", High: "v1.0.0", Why: "a\nb"}}},
			{Module: "a.b", Retracts: []gomod.Retract{{Low: "v1.0.0", High: "v1.0.0", Why: " a"}}},
		},
	}
}

func TestPrintWrong(t *testing.T) {
	for want, files := range wrong() {
		for _, f := range files {
			if s, e := Print(f); s != "" || e != want {
				t.Errorf("Print(%+v): %q, %d, not %d", f, s, e, want)
			}
		}
	}
}

// Print asks nothing of how many lines there are, though Parse does.
func TestPrintMany(t *testing.T) {
	full := gomod.File{Module: "a.b"}
	for i := range 96 {
		full.Requires = append(full.Requires, need(fmt.Sprintf("c.d/x%d", i), "v1.0.0"))
	}
	s, e := Print(full)
	if e != api.OK || strings.Count(s, "\n") != api.MaxLines {
		t.Fatal(s, e)
	}
	printed(t, full, s)
	full.Requires = append(full.Requires, need("e.f", "v1.0.0"))
	if more, e := Print(full); e != api.OK || more != strings.TrimSuffix(s, ")\n")+"\te.f v1.0.0\n)\n" {
		t.Error(more, e)
	}
}

// model is the text of f, told line by line.
func model(f gomod.File) string {
	lines := []string{"module " + f.Module}
	if f.Go != "" {
		lines = append(lines, "", "go "+f.Go)
	}
	var things [4][]string
	for _, r := range f.Requires {
		things[0] = append(things[0], lex.Write(r.Mod.Path)+" "+r.Mod.Version+map[bool]string{true: " // indirect"}[r.Indirect])
	}
	for _, r := range f.Replaces {
		words := []string{lex.Write(r.Old.Path), r.Old.Version, "=>", lex.Write(r.New.Path), r.New.Version}
		words = slices.DeleteFunc(words, func(s string) bool { return s == "" })
		things[1] = append(things[1], strings.Join(words, " "))
	}
	for _, m := range f.Excludes {
		things[2] = append(things[2], lex.Write(m.Path)+" "+m.Version)
	}
	for _, r := range f.Retracts {
		s := fmt.Sprintf("[%s %s] // %s", r.Low, r.High, r.Why)
		if r.Low == r.High {
			s = fmt.Sprintf("%s // %s", r.Low, r.Why)
		}
		things[3] = append(things[3], strings.TrimSuffix(s, " // "))
	}
	for i, verb := range []string{"require", "replace", "exclude", "retract"} {
		switch l := things[i]; len(l) {
		case 0:
		case 1:
			lines = append(lines, "", verb+" "+l[0])
		default:
			lines = append(lines, "", verb+" (")
			for _, s := range l {
				lines = append(lines, "\t"+s)
			}
			lines = append(lines, ")")
		}
	}
	return strings.Join(lines, "\n") + "\n"
}

// someLists tells lists of few things of each kind, also of such that may not be.
func someLists() ([][]gomod.Require, [][]gomod.Replace, [][]api.Mod, [][]gomod.Retract) {
	return listsUpTo(2, need("c.d", "v1.0.0"), indirect("c.d/v2", "v2.0.0"), need("e", "")),
		listsUpTo(2, gomod.Replace{Old: mod("c.d", ""), New: mod("./(", "")}, gomod.Replace{Old: mod("c.d", "v1.0.0"), New: mod("e.f", "v1.1.0")}, gomod.Replace{Old: mod("c.d", "v1.0.0"), New: mod("../", "")}),
		listsUpTo(2, mod("c.d", "v1.2.0"), mod("c.d", "v2.0.0+incompatible"), mod("c.d", "x")),
		listsUpTo(2, gomod.Retract{Low: "v1.0.0", High: "v1.0.0", Why: "x"}, gomod.Retract{Low: "v1.0.0", High: "v1.1.0"}, gomod.Retract{Low: "v1.0.0", High: "v1.0.0", Why: "x "})
}

// What is printed is parsed as it was, printed again it is the same text; what
// may not be said is not printed.
func TestPrintAll(t *testing.T) {
	well := 0
	requires, replaces, excludes, retracts := someLists()
	for i, a := range requires {
		for _, b := range replaces {
			for _, c := range excludes {
				for _, d := range retracts {
					f := gomod.File{Module: "a.b", Requires: a, Replaces: b, Excludes: c, Retracts: d}
					if i%2 == 1 {
						f.Go = "1.21"
					}
					s, e := Print(f)
					if want := gomod.Check(f); e != want || e != api.OK && s != "" {
						t.Fatalf("Print(%+v): %q, %d, not %d", f, s, e, want)
					}
					if e != api.OK {
						continue
					}
					well++
					if want := model(f); s != want {
						t.Fatalf("Print(%+v): %q, not %q", f, s, want)
					}
					g, bad := gomod.Parse(s)
					if bad != (api.Fault{}) || !same(f, g) {
						t.Fatalf("Parse(%q): %+v, %v", s, g, bad)
					}
					if again, e := Print(g); again != s || e != api.OK {
						t.Fatalf("again: %q, %d", again, e)
					}
				}
			}
		}
	}
	if well < 1000 {
		t.Error("few files were printed:", well)
	}
}

func TestSortRequires(t *testing.T) {
	f := Sort(gomod.File{Module: "a.b", Go: "1.2", Requires: []gomod.Require{
		need("c.d/e", "v1.0.0"), indirect("c.d-e", "v1.0.0"), need("c.d", "v1.3.0"), need("", ""), need("b.c", "v0.1.0"), need("c.d", "v1.1.0"), indirect("c.d", "v1.2.0"),
	}})
	want := gomod.File{Module: "a.b", Go: "1.2", Requires: []gomod.Require{
		// By elements: what is in c.d stands right behind it. One path twice: in their order, not by the version.
		need("", ""), need("b.c", "v0.1.0"), need("c.d", "v1.3.0"), need("c.d", "v1.1.0"), indirect("c.d", "v1.2.0"), need("c.d/e", "v1.0.0"), indirect("c.d-e", "v1.0.0"),
	}}
	if !same(f, want) {
		t.Errorf("%+v", f)
	}
}

// sortedMods is modules as they stand when sorted: some are no modules.
func sortedMods() []api.Mod {
	return []api.Mod{
		mod("", ""), mod("", "v1.0.0"), mod("b.c", "v9.0.0"),
		mod("c.d", ""), mod("c.d", "v1"), mod("c.d", "w"), mod("c.d", "v1.0.0-2"), mod("c.d", "v1.0.0-10"), mod("c.d", "v1.0.0-a"),
		mod("c.d", "v1.0.0"), mod("c.d", "v1.0.0+a"), mod("c.d", "v1.0.0+b"), mod("c.d", "v1.2.0"), mod("c.d", "v1.10.0"),
		mod("c.d/e", "v0.0.0"), mod("c.d-e", "v0.0.0"),
	}
}

// swaps tells the list with each two of it in each other's place, and turned round.
func swaps[T any](l []T) [][]T {
	turned := slices.Clone(l)
	slices.Reverse(turned)
	all := [][]T{slices.Clone(l), turned}
	for i := range l {
		for k := range i {
			s := slices.Clone(l)
			s[i], s[k] = s[k], s[i]
			all = append(all, s)
		}
	}
	return all
}

func TestSortMods(t *testing.T) {
	want := sortedMods()
	for _, l := range swaps(want) {
		f := gomod.File{Excludes: l}
		for _, m := range l {
			f.Replaces = append(f.Replaces, gomod.Replace{Old: m, New: mod("./"+m.Path, m.Version)})
		}
		g := Sort(f)
		if !slices.Equal(g.Excludes, want) {
			t.Fatalf("%v: %v", l, g.Excludes)
		}
		for i, r := range g.Replaces {
			if r.Old != want[i] || r.New != mod("./"+r.Old.Path, r.Old.Version) {
				t.Fatalf("%v: %v", l, g.Replaces)
			}
		}
	}
}

// Of Old alone: what comes in its place counts nothing.
func TestSortReplacesAlike(t *testing.T) {
	at := func(old, by string) gomod.Replace {
		return gomod.Replace{Old: mod("c.d", old), New: mod("./"+by, "")}
	}
	f := Sort(gomod.File{Replaces: []gomod.Replace{at("v1.0.0", "z"), at("", "y"), at("v1.0.0", "x"), at("", "z"), at("v1.0.0", "y"), at("", "x")}})
	want := []gomod.Replace{at("", "y"), at("", "z"), at("", "x"), at("v1.0.0", "z"), at("v1.0.0", "x"), at("v1.0.0", "y")}
	if !slices.Equal(f.Replaces, want) {
		t.Errorf("%v", f.Replaces)
	}
}

func TestSortRetracts(t *testing.T) {
	at := func(low, high string) gomod.Retract { return gomod.Retract{Low: low, High: high} }
	want := []gomod.Retract{
		at("v1.10.0", "v1.10.0"), at("v1.2.0", "v1.10.0"), at("v1.1.0", "v1.10.0"), at("x", "v1.10.0"), at("v1.2.0", "v1.2.0"), at("v1.0.0", "v1.2.0"),
		at("v1.0.0", "v1.0.0"), at("v1.0.0-a", "v1.0.0"), at("v1.0.0-a", "v1.0.0-a"), at("v2.0.0", ""), at("v1.0.0", "x"), at("x", ""),
	}
	for _, l := range swaps(want) {
		if f := Sort(gomod.File{Retracts: l}); !slices.Equal(f.Retracts, want) {
			t.Fatalf("%v: %v", l, f.Retracts)
		}
	}
}

// Those that are alike for versions stay in their order, whatever their texts.
func TestSortRetractsAlike(t *testing.T) {
	alike := []gomod.Retract{
		{Low: "v2.0.0", High: "v3.0.0", Why: "b"}, {Low: "v2.0.0+incompatible", High: "v3.0.0", Why: "a"}, {Low: "v2.0.0", High: "v3.0.0+incompatible", Why: "c"}, {Low: "v2.0.0", High: "v3.0.0"},
	}
	none := []gomod.Retract{{Low: "b", High: "x", Why: "b"}, {Low: "c", High: "y", Why: "a"}, {Low: "a", High: "z", Why: "c"}, {}}
	for _, l := range [][]gomod.Retract{alike, none} {
		for _, s := range swaps(l) {
			if f := Sort(gomod.File{Retracts: s}); !slices.Equal(f.Retracts, s) {
				t.Errorf("%v: %v", s, f.Retracts)
			}
		}
	}
}

// Long lists, as a sort that keeps no order may yet keep that of short ones.
func TestSortManyAlike(t *testing.T) {
	var f, want gomod.File
	for i := range 60 {
		v := fmt.Sprintf("v1.%d.0", i)
		path := []string{"e.f", "c.d"}[i%2]
		f.Requires = append(f.Requires, need(path, v))
		f.Replaces = append(f.Replaces, gomod.Replace{Old: mod(path, "v1.0.0"), New: mod("c.d", v)})
		f.Retracts = append(f.Retracts, gomod.Retract{Low: "v0.1.0", High: []string{"v1.0.0", "v1.1.0"}[i%2], Why: v})
	}
	for _, from := range []int{1, 0} {
		for i := from; i < 60; i += 2 {
			want.Requires = append(want.Requires, f.Requires[i])
			want.Replaces = append(want.Replaces, f.Replaces[i])
			want.Retracts = append(want.Retracts, f.Retracts[i])
		}
	}
	if g := Sort(f); !same(g, want) {
		t.Errorf("%+v", g)
	}
}

// rises fails unless two neighbours of a sorted list never fall, and the list
// has what it had.
func rises[T comparable](t *testing.T, before, after []T, order func(T, T) int) {
	t.Helper()
	for i := 1; i < len(after); i++ {
		if order(after[i-1], after[i]) > 0 {
			t.Fatalf("%v: %v", before, after)
		}
	}
	for _, x := range before {
		count := 0
		for _, y := range slices.Concat(before, after) {
			if x == y {
				count++
			}
		}
		if count%2 == 1 || len(before) != len(after) {
			t.Fatalf("%v: %v", before, after)
		}
	}
}

func orderMods(a, b api.Mod) int {
	for _, c := range []int{paths.Compare(a.Path, b.Path), semver.Compare(a.Version, b.Version), strings.Compare(a.Version, b.Version)} {
		if c != 0 {
			return c
		}
	}
	return 0
}

// What is sorted stays, whatever it is.
func TestSortAll(t *testing.T) {
	requires, replaces, excludes, retracts := someLists()
	for i, a := range requires {
		b, c, d := replaces[i%len(replaces)], excludes[i*5%len(excludes)], retracts[i*7%len(retracts)]
		f := gomod.File{Module: " ", Go: "x", Requires: a, Replaces: b, Excludes: c, Retracts: d}
		g := Sort(f)
		if g.Module != f.Module || g.Go != f.Go || !same(Sort(g), g) {
			t.Fatalf("Sort(%+v): %+v", f, g)
		}
		rises(t, f.Requires, g.Requires, func(x, y gomod.Require) int { return paths.Compare(x.Mod.Path, y.Mod.Path) })
		rises(t, f.Replaces, g.Replaces, func(x, y gomod.Replace) int { return orderMods(x.Old, y.Old) })
		rises(t, f.Excludes, g.Excludes, orderMods)
	}
	if f := Sort(gomod.File{}); !same(f, gomod.File{}) {
		t.Errorf("%+v", f)
	}
	for _, l := range listsUpTo(4, "v1.0.0", "v1.1.0", "x", "v1.0.0+incompatible") {
		f := gomod.File{}
		for i, v := range l {
			f.Retracts = append(f.Retracts, gomod.Retract{Low: v, High: l[len(l)-1-i], Why: fmt.Sprint(i)})
		}
		g := Sort(f)
		if !same(Sort(g), g) {
			t.Fatalf("%+v", g)
		}
		rises(t, f.Retracts, g.Retracts, func(x, y gomod.Retract) int {
			if c := semver.Compare(y.High, x.High); c != 0 {
				return c
			}
			if c := semver.Compare(y.Low, x.Low); c != 0 {
				return c
			}
			return strings.Compare(x.Why, y.Why)
		})
	}
}

// some is a file with something of each kind.
func some() gomod.File {
	return gomod.File{
		Module: "a.b", Go: "1.20", Requires: []gomod.Require{indirect("e.f", "v1.2.0"), need("c.d", "v1.0.0"), need("g.h", "v2.0.0+incompatible")},
		Replaces: []gomod.Replace{{Old: mod("e.f", ""), New: mod("./x", "")}, {Old: mod("c.d", ""), New: mod("./x", "")}},
		Excludes: []api.Mod{mod("e.f", "v1.1.0"), mod("c.d", "v1.1.0")},
		Retracts: []gomod.Retract{{Low: "v1.0.0", High: "v1.0.0", Why: "x"}, {Low: "v1.0.0", High: "v1.1.0"}},
	}
}

func TestRequire(t *testing.T) {
	for _, x := range []struct {
		m    api.Mod
		at   int
		want gomod.Require
	}{
		{mod("c.d", "v1.0.1"), 1, need("c.d", "v1.0.1")},
		{mod("c.d", "v1.10.0"), 1, need("c.d", "v1.10.0")},
		{mod("c.d", "v2.0.0+incompatible"), 1, need("c.d", "v2.0.0+incompatible")},
		{mod("c.d", "v1.0.0"), 1, need("c.d", "v1.0.0")},
		{mod("c.d", "v1.0.0-a"), 1, need("c.d", "v1.0.0")},
		{mod("c.d", "v0.9.0"), 1, need("c.d", "v1.0.0")},
		// Indirect stays as it was.
		{mod("e.f", "v1.10.0"), 0, indirect("e.f", "v1.10.0")},
		{mod("e.f", "v1.1.0"), 0, indirect("e.f", "v1.2.0")},
		{mod("g.h", "v1.0.0"), 2, need("g.h", "v2.0.0+incompatible")},
		{mod("a.b", "v1.0.0"), 3, need("a.b", "v1.0.0")},
		{mod("c.d/v2", "v2.0.0"), 3, need("c.d/v2", "v2.0.0")},
		{mod("c.dd", "v0.0.0-0"), 3, need("c.dd", "v0.0.0-0")},
	} {
		want := some()
		if x.at == len(want.Requires) {
			want.Requires = append(want.Requires, x.want)
		}
		want.Requires[x.at] = x.want
		f, e := Require(some(), x.m)
		if e != api.OK || !same(f, want) {
			t.Errorf("%v: %+v, %d", x.m, f, e)
		}
		if again, e := Require(f, x.m); e != api.OK || !same(again, f) {
			t.Errorf("%v again: %+v, %d", x.m, again, e)
		}
	}
	if f, e := Require(gomod.File{Module: "a.b"}, mod("c.d", "v1.0.0")); e != api.OK || !same(f, gomod.File{Module: "a.b", Requires: []gomod.Require{need("c.d", "v1.0.0")}}) {
		t.Errorf("%+v, %d", f, e)
	}
}

func TestRequireWrong(t *testing.T) {
	refused := func(f gomod.File, m api.Mod, want api.Errno) {
		t.Helper()
		if g, e := Require(f, m); e != want || !reflect.DeepEqual(g, gomod.File{}) {
			t.Errorf("Require(%+v, %v): %+v, %d, not %d", f, m, g, e, want)
		}
	}
	for m, want := range map[api.Mod]api.Errno{
		mod("", ""): api.ErrPath, mod("x", "v1.0.0"): api.ErrPath, mod("./x", ""): api.ErrPath, mod("x", "v1"): api.ErrPath,
		mod("x.y", ""): api.ErrVersion, mod("x.y", "v1.0"): api.ErrVersion, mod("x.y", "v1.0.0+m"): api.ErrVersion, mod("c.d", "v1.0"): api.ErrVersion, mod("c.d", ""): api.ErrVersion,
		mod("x.y", "v2.0.0"): api.ErrMajor, mod("c.d", "v2.0.0"): api.ErrMajor, mod("x.y/v2", "v1.0.0"): api.ErrMajor, mod("x.y", "v1.0.0+incompatible"): api.ErrMajor,
	} {
		refused(some(), m, want)
		refused(gomod.File{Module: "a.b"}, m, want)
	}
	// The file's own error stands ahead of m's, in whatever field it is.
	for want, files := range wrong() {
		for _, f := range files {
			for _, m := range []api.Mod{mod("c.d", "v1.0.0"), mod("x.y", "v1.0.0"), mod("x", "v1.0.0"), mod("x.y", ""), mod("x.y", "v2.0.0")} {
				refused(f, m, want)
			}
		}
	}
}

func TestDrop(t *testing.T) {
	for i, r := range some().Requires {
		want := some()
		want.Requires = slices.Delete(want.Requires, i, i+1)
		if f, e := Drop(some(), r.Mod.Path); e != api.OK || !same(f, want) {
			t.Errorf("%v: %+v, %d", r, f, e)
		}
	}
	for _, path := range []string{"", "a.b", "c", "c.d/", "c.d/e", "C.D", "x.y"} {
		for _, f := range []gomod.File{some(), {}, {Module: "a.b"}, {Replaces: []gomod.Replace{{Old: mod(path, "")}}, Excludes: []api.Mod{mod(path, "")}}} {
			if g, e := Drop(f, path); e != api.ErrNone || !reflect.DeepEqual(g, gomod.File{}) {
				t.Errorf("%q: %+v, %d", path, g, e)
			}
		}
	}
	if f, e := Drop(gomod.File{Module: "a.b", Requires: []gomod.Require{need("c.d", "v1.0.0")}}, "c.d"); e != api.OK || !same(f, gomod.File{Module: "a.b"}) {
		t.Errorf("%+v, %d", f, e)
	}
}

// Drop asks nothing of the file, and leaves none of the path.
func TestDropAll(t *testing.T) {
	for _, l := range listsUpTo(5, need("c.d", "v1.0.0"), indirect("c.d", "x"), need("", "")) {
		f := gomod.File{Module: "a", Go: "b", Requires: l, Excludes: []api.Mod{{}, {}}, Retracts: []gomod.Retract{{Why: "\n"}}}
		for _, path := range []string{"c.d", ""} {
			var left []gomod.Require
			for _, r := range l {
				if r.Mod.Path != path {
					left = append(left, r)
				}
			}
			want := f
			want.Requires = left
			g, e := Drop(f, path)
			if len(left) == len(l) && (e != api.ErrNone || !reflect.DeepEqual(g, gomod.File{})) {
				t.Fatalf("Drop(%+v, %q): %+v, %d", f, path, g, e)
			}
			if len(left) < len(l) && (e != api.OK || !same(g, want)) {
				t.Fatalf("Drop(%+v, %q): %+v, %d", f, path, g, e)
			}
		}
	}
}

// scratch writes over all that the lists of f have, their spare room too.
func scratch(f gomod.File) {
	clear(f.Requires[:cap(f.Requires)])
	clear(f.Replaces[:cap(f.Replaces)])
	clear(f.Excludes[:cap(f.Excludes)])
	clear(f.Retracts[:cap(f.Retracts)])
}

// cut is f with the first n of each list, with room behind them.
func cut(f gomod.File, n int) gomod.File {
	f.Requires, f.Replaces, f.Excludes, f.Retracts = f.Requires[:n], f.Replaces[:n], f.Excludes[:n], f.Retracts[:n]
	return f
}

// What is handed in stays, behind the lists' lengths too, and no answer has
// anything of it.
func TestApart(t *testing.T) {
	calls := map[string]func(gomod.File) gomod.File{
		"Sort": Sort,
		"Print": func(f gomod.File) gomod.File {
			Print(f)
			return gomod.File{}
		},
		"Require, higher": func(f gomod.File) gomod.File {
			g, _ := Require(f, mod("e.f", "v1.9.0"))
			return g
		},
		"Require, lower": func(f gomod.File) gomod.File {
			g, _ := Require(f, mod("e.f", "v1.0.0"))
			return g
		},
		"Require, new": func(f gomod.File) gomod.File {
			g, _ := Require(f, mod("x.y", "v1.0.0"))
			return g
		},
		"Drop": func(f gomod.File) gomod.File {
			g, _ := Drop(f, "e.f")
			return g
		},
		"Drop, last": func(f gomod.File) gomod.File {
			g, _ := Drop(f, f.Requires[len(f.Requires)-1].Mod.Path)
			return g
		},
	}
	for name, call := range calls {
		for n := 1; n <= 2; n++ {
			whole := some()
			answer := call(cut(whole, n))
			if !same(whole, some()) {
				t.Errorf("%s: changed to %+v", name, whole)
			}
			want := apart(answer)
			scratch(whole)
			if !same(answer, want) {
				t.Errorf("%s: the answer has lists of what was handed in", name)
			}
			whole = some()
			answer = call(cut(whole, n))
			scratch(answer)
			if !same(whole, some()) {
				t.Errorf("%s: what was handed in has lists of the answer", name)
			}
		}
	}
	// Lists without elements may have room too.
	whole := some()
	scratch(Sort(cut(whole, 0)))
	g, _ := Require(cut(whole, 0), mod("x.y", "v1.0.0"))
	scratch(g)
	if !same(whole, some()) {
		t.Errorf("%+v", whole)
	}
}

// A file may be changed and printed: what is told is well again.
func TestFollows(t *testing.T) {
	f, e := Require(some(), mod("x.y", "v1.0.0"))
	if e == api.OK {
		f, e = Drop(f, "e.f")
	}
	if e != api.OK {
		t.Fatal(e)
	}
	f = Sort(f)
	printed(t, f, "module a.b\n\ngo 1.20\n\nrequire (\n\tc.d v1.0.0\n\tg.h v2.0.0+incompatible\n\tx.y v1.0.0\n)\n\nreplace (\n\tc.d => ./x\n\te.f => ./x\n)\n\nexclude (\n\tc.d v1.1.0\n\te.f v1.1.0\n)\n\nretract (\n\t[v1.0.0 v1.1.0]\n\tv1.0.0 // x\n)\n")
}
