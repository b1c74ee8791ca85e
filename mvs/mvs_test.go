package mvs

import (
	"fmt"
	"maps"
	"math"
	"math/rand/v2"
	"reflect"
	"slices"
	"strconv"
	"strings"
	"testing"

	"graftbed/api"
	"graftbed/cache"
	"graftbed/gomod"
	"graftbed/paths"
	"graftbed/rewrite"
	"graftbed/semver"
)

func mod(path, version string) api.Mod { return api.Mod{Path: path, Version: version} }

// mods is the modules of these words, each with an "@" or without a version.
func mods(words ...string) []api.Mod {
	var l []api.Mod
	for _, s := range words {
		path, version, _ := strings.Cut(s, "@")
		l = append(l, mod(path, version))
	}
	return l
}

// text is a go.mod file of this module that requires these.
func text(module string, needs ...string) string {
	s := "module " + module + "\n"
	for _, m := range mods(needs...) {
		s += "require " + m.Path + " " + m.Version + "\n"
	}
	return s
}

// entry is of a module as a word, that needs these.
func entry(module string, needs ...string) api.Entry {
	m := mods(module)[0]
	return api.Entry{Mod: m, GoMod: text(m.Path, needs...)}
}

// needing is what a main module's file says that requires these.
func needing(needs ...string) gomod.File {
	f := gomod.File{Module: "m.x"}
	for _, m := range mods(needs...) {
		f.Requires = append(f.Requires, gomod.Require{Mod: m})
	}
	return f
}

// words is the modules in one text, for what failed.
func words(l []api.Mod) string {
	var all []string
	for _, m := range l {
		all = append(all, cache.At(m))
	}
	return strings.Join(all, " ")
}

// orders tells the list in each order; it should be short.
func orders[T any](l []T) [][]T {
	if len(l) == 0 {
		return [][]T{nil}
	}
	var all [][]T
	for i := range l {
		for _, rest := range orders(slices.Delete(slices.Clone(l), i, i+1)) {
			all = append(all, append([]T{l[i]}, rest...))
		}
	}
	return all
}

func TestReach(t *testing.T) {
	l := []api.Entry{
		entry("c.x@v1.0.0", "d.x@v1.4.0", "a.x@v1.0.0"), entry("d.x@v1.4.0"), entry("a.x@v1.0.0", "b.x@v1.2.0", "c.x@v1.0.0", "b.x/y@v0.1.0"),
		entry("b.x@v1.10.0"), entry("b.x@v1.2.0", "d.x@v1.3.0", "m.x@v1.9.0"), entry("d.x@v1.3.0"), entry("b.x/y@v0.1.0", "b.x@v1.10.0", "b-x.x@v0.0.0-0"),
		entry("b-x.x@v0.0.0-0", "b-x.x@v0.0.0-0"), entry("e.x@v1.0.0", "a.x@v1.0.0"), entry("m.x@v1.9.0", "e.x@v1.0.0"), entry("m.x/v2@v2.0.0", "d.x@v1.3.0"),
	}
	for needs, want := range map[string]string{
		"":           "",
		"d.x@v1.3.0": "d.x@v1.3.0",
		// Each once, whoever asks for it, and round and round.
		"d.x@v1.3.0 d.x@v1.3.0": "d.x@v1.3.0",
		"b-x.x@v0.0.0-0":        "b-x.x@v0.0.0-0",
		"d.x@v1.4.0 d.x@v1.3.0": "d.x@v1.3.0 d.x@v1.4.0",
		// All versions, not the highest alone: by the paths' elements, and rising as versions do.
		"b.x@v1.10.0 b.x@v1.2.0":  "b.x@v1.2.0 b.x@v1.10.0 d.x@v1.3.0",
		"b.x/y@v0.1.0 b.x@v1.2.0": "b-x.x@v0.0.0-0 b.x@v1.2.0 b.x@v1.10.0 b.x/y@v0.1.0 d.x@v1.3.0",
		"c.x@v1.0.0":              "a.x@v1.0.0 b-x.x@v0.0.0-0 b.x@v1.2.0 b.x@v1.10.0 b.x/y@v0.1.0 c.x@v1.0.0 d.x@v1.3.0 d.x@v1.4.0",
		// The main module itself is nowhere reached, at whatever version; another one of that name is.
		"m.x@v1.9.0":               "",
		"m.x@v1.0.0 d.x@v1.4.0":    "d.x@v1.4.0",
		"m.x/v2@v2.0.0 b.x@v1.2.0": "b.x@v1.2.0 d.x@v1.3.0 m.x/v2@v2.0.0",
	} {
		f := needing(strings.Fields(needs)...)
		if all, bad := Reach(f, l, 20); words(all) != want || bad != (api.Fault{}) {
			t.Errorf("%s: %s, %v, not %s", needs, words(all), bad, want)
		}
	}
}

// What the main file excludes and replaces counts for its own requires too.
func TestReachRewritten(t *testing.T) {
	f, bad := gomod.Parse("module m.x\nrequire a.x v1.0.0\nrequire b.x v1.0.0\nexclude a.x v1.0.0\nexclude a.x v1.1.0\nexclude c.x v1.0.0\nexclude d.x v1.0.0\nreplace b.x => ./b\nreplace e.x v1.0.0 => e.y v1.5.0\n")
	if bad != (api.Fault{}) {
		t.Fatal(bad)
	}
	l := []api.Entry{
		entry("a.x@v1.0.0", "z.x@v1.0.0"), entry("a.x@v1.1.0", "z.x@v1.0.0"), entry("a.x@v1.2.0", "c.x@v1.0.0"), entry("a.x@v1.3.0", "z.x@v1.0.0"),
		entry("b.x@v1.0.0", "z.x@v1.0.0"), {Mod: mod("./b", ""), GoMod: text("other.x", "e.x@v1.0.0")}, entry("c.x@v1.0.0", "z.x@v1.0.0"), entry("c.x@v1.0.1"),
		entry("e.x@v1.0.0", "z.x@v1.0.0"), entry("e.y@v1.5.0", "m.x@v1.0.0", "f.x@v1.0.0"), entry("f.x@v1.0.0", "a.x@v1.1.0"), entry("d.x@v1.0.0", "f.x@v1.0.0"), entry("z.x@v1.0.0"),
	}
	// What stands in another one's place is reached under that one's own name.
	want := "a.x@v1.2.0 b.x@v1.0.0 c.x@v1.0.1 e.x@v1.0.0 f.x@v1.0.0"
	if all, bad := Reach(f, l, 5); words(all) != want || bad != (api.Fault{}) {
		t.Errorf("%s, %v, not %s", words(all), bad, want)
	}
	// Two that are one and the same when they are left.
	f.Requires = append(f.Requires, needing("a.x@v1.1.0", "a.x@v1.2.0").Requires...)
	if all, bad := Reach(f, l, 5); words(all) != want || bad != (api.Fault{}) {
		t.Errorf("%s, %v, not %s", words(all), bad, want)
	}
	// One that is excluded and has no next one stays as it is, as in rewrite.Needs.
	f.Requires = needing("d.x@v1.0.0").Requires
	want = "a.x@v1.2.0 c.x@v1.0.1 d.x@v1.0.0 f.x@v1.0.0"
	if all, bad := Reach(f, l, 5); words(all) != want || bad != (api.Fault{}) {
		t.Errorf("%s, %v, not %s", words(all), bad, want)
	}
}

// row is n modules, each of which needs the one behind; the first of them is word(0).
func row(n int) []api.Entry {
	var l []api.Entry
	for i := range n {
		needs := []string{word(i + 1)}
		if i == n-1 {
			needs = nil
		}
		l = append(l, entry(word(i), needs...))
	}
	return l
}

func word(i int) string { return "a.x@v1.0." + strconv.Itoa(i) }

// star is a file that requires n modules, and their entries.
func star(n int) (gomod.File, []api.Entry) {
	var needs []string
	var l []api.Entry
	for i := range n {
		needs = append(needs, word(n-1-i))
		l = append(l, entry(word(i)))
	}
	return needing(needs...), l
}

func TestReachBudget(t *testing.T) {
	for _, n := range []int{0, 1, 2, 5, 39, 40, 41, 90, api.MaxStep - 1, api.MaxStep, api.MaxStep + 1, 3 * api.MaxStep} {
		f, l := star(n)
		budgeted(t, f, l, n)
		if n > 0 {
			budgeted(t, needing(word(0)), row(n), n)
		}
	}
}

// budgeted asks for n modules of one path with budgets about that.
func budgeted(t *testing.T, f gomod.File, l []api.Entry, n int) {
	t.Helper()
	for _, budget := range []int{math.MinInt, -1, 0, 1, n - 1, n, n + 1, api.MaxStep - 1, api.MaxStep, api.MaxStep + 1, math.MaxInt} {
		count, top, want := n, "", api.Fault{}
		if n > 0 {
			top = word(n - 1)
		}
		if n > max(budget, 0) || n > api.MaxStep {
			count, top, want = 0, "", api.Fault{E: api.ErrBudget}
		}
		if all, bad := Reach(f, l, budget); len(all) != count || bad != want {
			t.Errorf("%d with %d: %d, %v", n, budget, len(all), bad)
		}
		if list, bad := Build(f, l, budget); words(list) != top || bad != want {
			t.Errorf("%d with %d: %s, %v", n, budget, words(list), bad)
		}
	}
}

func TestReachFault(t *testing.T) {
	l := []api.Entry{
		entry("a.x@v1.0.0", "d.x@v1.0.0", "c.x@v1.0.0"), {Mod: mod("c.x", "v1.0.0"), GoMod: "module c.x\nrequire e.x v1.0.0\njunk\n"},
		{Mod: mod("d.x", "v1.0.0"), GoMod: "module d.y\nrequire e.x v1.0.0\n"}, entry("e.x@v1.0.0"), entry("b.x@v1.2.0", "c.x@v1.0.0", "z.x@v1.0.0"), {Mod: mod("b.x", "v1.10.0")},
	}
	for _, c := range []struct {
		needs  string
		budget int
		want   api.Fault
	}{
		{"z.x@v1.0.0", 9, api.Fault{E: api.ErrMissing, Path: "z.x@v1.0.0"}},
		{"c.x@v1.0.0", 9, api.Fault{E: api.ErrVerb, Path: "c.x@v1.0.0", Line: 3}},
		{"d.x@v1.0.0", 9, api.Fault{E: api.ErrCache, Path: "d.x@v1.0.0"}},
		{"b.x@v1.10.0", 9, api.Fault{E: api.ErrNone, Path: "b.x@v1.10.0"}},
		// The first one in order, not the one that is asked for first, nor the nearest one.
		{"d.x@v1.0.0 c.x@v1.0.0", 9, api.Fault{E: api.ErrVerb, Path: "c.x@v1.0.0", Line: 3}},
		{"a.x@v1.0.0", 9, api.Fault{E: api.ErrVerb, Path: "c.x@v1.0.0", Line: 3}},
		{"d.x@v1.0.0 a.x@v1.0.0", 9, api.Fault{E: api.ErrVerb, Path: "c.x@v1.0.0", Line: 3}},
		{"z.x@v1.0.0 b.x@v1.2.0", 9, api.Fault{E: api.ErrVerb, Path: "c.x@v1.0.0", Line: 3}},
		{"b.x@v1.10.0 b.x@v1.3.0", 9, api.Fault{E: api.ErrMissing, Path: "b.x@v1.3.0"}},
		// Also of one whose path is there at a higher version.
		{"b.x@v1.10.0 b.x@v1.2.0", 9, api.Fault{E: api.ErrNone, Path: "b.x@v1.10.0"}},
		{"e.x@v0.9.0 e.x@v1.0.0", 9, api.Fault{E: api.ErrMissing, Path: "e.x@v0.9.0"}},
		// The budget comes first; what can't be told counts nothing.
		{"a.x@v1.0.0", 3, api.Fault{E: api.ErrVerb, Path: "c.x@v1.0.0", Line: 3}},
		{"a.x@v1.0.0", 2, api.Fault{E: api.ErrBudget}},
		{"z.x@v1.0.0", 0, api.Fault{E: api.ErrBudget}},
		{"z.x@v1.0.0", -1, api.Fault{E: api.ErrBudget}},
		{"c.x@v1.0.0", 1, api.Fault{E: api.ErrVerb, Path: "c.x@v1.0.0", Line: 3}},
	} {
		f := needing(strings.Fields(c.needs)...)
		for _, tell := range []func(gomod.File, []api.Entry, int) ([]api.Mod, api.Fault){Reach, Build} {
			if all, bad := tell(f, l, c.budget); len(all) != 0 || bad != c.want {
				t.Errorf("%s with %d: %s, %v, not %v", c.needs, c.budget, words(all), bad, c.want)
			}
		}
	}
}

func TestBuild(t *testing.T) {
	l := []api.Entry{
		entry("a.x@v1.0.0", "b.x@v1.2.0"), entry("b.x@v1.0.0", "c.x@v1.5.0"), entry("b.x@v1.2.0", "c.x@v1.0.0"), entry("b.x@v1.10.0"), entry("c.x@v1.0.0"), entry("c.x@v1.5.0"),
		entry("c.x/d@v0.1.0-rc", "b-x.x@v1.0.0"), entry("c.x/d@v0.1.0", "c.x/d@v0.1.0-rc"), entry("b-x.x@v1.0.0"), entry("e.x@v1.9.0"), entry("e.x@v2.0.0+incompatible"),
	}
	for needs, want := range map[string]string{
		"":                      "",
		"a.x@v1.0.0":            "a.x@v1.0.0 b.x@v1.2.0 c.x@v1.0.0",
		"c.x@v1.5.0 c.x@v1.0.0": "c.x@v1.5.0",
		// Not the highest one that there is, and also by one that is not built itself.
		"b.x@v1.0.0 a.x@v1.0.0":              "a.x@v1.0.0 b.x@v1.2.0 c.x@v1.5.0",
		"a.x@v1.0.0 b.x@v1.10.0":             "a.x@v1.0.0 b.x@v1.10.0 c.x@v1.0.0",
		"c.x@v1.0.0 c.x/d@v0.1.0":            "b-x.x@v1.0.0 c.x@v1.0.0 c.x/d@v0.1.0",
		"m.x@v1.0.0 c.x@v1.0.0":              "c.x@v1.0.0",
		"e.x@v2.0.0+incompatible":            "e.x@v2.0.0+incompatible",
		"c.x@v1.0.0 e.x@v1.9.0":              "c.x@v1.0.0 e.x@v1.9.0",
		"e.x@v2.0.0+incompatible e.x@v1.9.0": "e.x@v2.0.0+incompatible",
	} {
		f := needing(strings.Fields(needs)...)
		if list, bad := Build(f, l, 20); words(list) != want || bad != (api.Fault{}) {
			t.Errorf("%s: %s, %v, not %s", needs, words(list), bad, want)
		}
	}
	// The document's second example of the whole: what is excluded gives way.
	f := needing("a.x@v1.0.0", "b.x@v1.0.0")
	f.Excludes = mods("b.x@v1.2.0")
	if list, bad := Build(f, l, 20); words(list) != "a.x@v1.0.0 b.x@v1.10.0 c.x@v1.5.0" || bad != (api.Fault{}) {
		t.Error(words(list), bad)
	}
}

func TestSelected(t *testing.T) {
	list := mods("b.x@v1.0.0", "a.x@v1.2.0", "b.x@v1.5.0", "./d", "@v1.0.0", "A.x@junk")
	for path, want := range map[string]string{"b.x": "v1.0.0", "a.x": "v1.2.0", "./d": "", "": "v1.0.0", "A.x": "junk"} {
		if version, is := Selected(list, path); version != want || !is {
			t.Errorf("%q: %q, %v", path, version, is)
		}
	}
	for _, path := range []string{"c.x", "B.x", "b.x/c", "b", "d", "v1.0.0", "b.x@v1.0.0"} {
		if version, is := Selected(list, path); version != "" || is {
			t.Errorf("%q: %q, %v", path, version, is)
		}
	}
	if version, is := Selected(nil, ""); version != "" || is {
		t.Error(version, is)
	}
}

func TestWhy(t *testing.T) {
	l := []api.Entry{
		entry("a.x@v1.0.0", "e.x@v1.0.0", "d.x@v1.0.0"), entry("b.x@v1.0.0", "c.x@v1.0.0", "e.x@v1.0.0"), entry("c.x@v1.0.0", "f.x@v1.0.0"),
		entry("d.x@v1.0.0", "f.x@v1.0.0", "g.x@v1.0.0", "a.x@v1.0.0"), entry("e.x@v1.0.0", "g.x@v1.0.0"), entry("f.x@v1.0.0", "h.x@v1.0.0"), entry("g.x@v1.0.0", "h.x@v1.0.0", "i.x@v1.0.0"),
		entry("h.x@v1.0.0", "m.x@v1.0.0", "b.x@v0.9.0"), {Mod: mod("i.x", "v1.0.0"), GoMod: "module i.y\nrequire j.x v1.0.0\n"}, entry("j.x@v1.0.0"), entry("a.x@v1.1.0", "j.x@v1.0.0"),
	}
	// The requires stand against their order: that they are asked for first is nothing.
	f := needing("b.x@v1.0.0", "a.x@v1.0.0")
	for m, want := range map[string]string{
		"a.x@v1.0.0": "a.x@v1.0.0", "b.x@v1.0.0": "b.x@v1.0.0", "c.x@v1.0.0": "b.x@v1.0.0 c.x@v1.0.0", "d.x@v1.0.0": "a.x@v1.0.0 d.x@v1.0.0",
		// Of alike long ones the first one that is first: c.x is ahead of d.x, but a.x of b.x.
		"e.x@v1.0.0": "a.x@v1.0.0 e.x@v1.0.0", "f.x@v1.0.0": "a.x@v1.0.0 d.x@v1.0.0 f.x@v1.0.0",
		"g.x@v1.0.0": "a.x@v1.0.0 d.x@v1.0.0 g.x@v1.0.0", "h.x@v1.0.0": "a.x@v1.0.0 d.x@v1.0.0 f.x@v1.0.0 h.x@v1.0.0",
		// What has a fault, or is not there, is reached all the same; but nothing by it.
		"i.x@v1.0.0": "a.x@v1.0.0 d.x@v1.0.0 g.x@v1.0.0 i.x@v1.0.0",
		"b.x@v0.9.0": "a.x@v1.0.0 d.x@v1.0.0 f.x@v1.0.0 h.x@v1.0.0 b.x@v0.9.0",
		"j.x@v1.0.0": "", "m.x@v1.0.0": "", "a.x@v1.1.0": "", "a.x": "", "@v1.0.0": "", "": "", "z.x@v1.0.0": "",
	} {
		for _, l := range [][]api.Entry{l, cache.Sort(l)} {
			if chain := Why(f, l, mods(m)[0]); words(chain) != want {
				t.Errorf("%s: %s, not %s", m, words(chain), want)
			}
		}
	}
	if chain := Why(needing("m.x@v1.0.0"), l, mod("m.x", "v1.0.0")); len(chain) != 0 {
		t.Error(words(chain))
	}
}

// A chain goes by what is left when the main file has excluded and replaced.
func TestWhyRewritten(t *testing.T) {
	l := []api.Entry{entry("a.x@v1.0.0", "c.x@v1.0.0"), entry("a.x@v1.1.0", "b.x@v1.0.0"), entry("b.x@v1.0.0"), {Mod: mod("./b", ""), GoMod: text("b.y", "c.x@v1.0.0")}, entry("c.x@v1.0.0")}
	f := needing("a.x@v1.0.0")
	f.Excludes = mods("a.x@v1.0.0")
	f.Replaces = []gomod.Replace{{Old: mod("b.x", ""), New: mod("./b", "")}}
	for m, want := range map[string]string{"a.x@v1.0.0": "", "a.x@v1.1.0": "a.x@v1.1.0", "c.x@v1.0.0": "a.x@v1.1.0 b.x@v1.0.0 c.x@v1.0.0", "./b": ""} {
		if chain := Why(f, l, mods(m)[0]); words(chain) != want {
			t.Errorf("%s: %s, not %s", m, words(chain), want)
		}
	}
}

// Why has no budget: neither long chains nor many modules are too much for it.
func TestWhyFar(t *testing.T) {
	n := 2*api.MaxStep + 1
	chain := Why(needing(word(0)), row(n), mods(word(n - 1))[0])
	if len(chain) != n || chain[0] != mods(word(0))[0] || chain[n-1] != mods(word(n - 1))[0] {
		t.Error(len(chain))
	}
	f, l := star(n)
	l[n-1] = entry(word(n-1), "b.x@v1.0.0")
	if chain := Why(f, l, mod("b.x", "v1.0.0")); words(chain) != word(n-1)+" b.x@v1.0.0" {
		t.Error(words(chain))
	}
}

// Each of many is asked what it needs, however many wait with it.
func TestWide(t *testing.T) {
	n := 3*api.MaxMods + 1
	f, l := star(n)
	for i := range n {
		own := "b.x@v1.0." + strconv.Itoa(i)
		l[i] = entry(word(i), own)
		l = append(l, entry(own))
	}
	if all, bad := Reach(f, l, 2*n); len(all) != 2*n || bad != (api.Fault{}) {
		t.Error(len(all), bad)
	}
	for i := range n {
		own := mods("b.x@v1.0." + strconv.Itoa(i))[0]
		if chain := Why(f, l, own); words(chain) != word(i)+" "+cache.At(own) {
			t.Errorf("%v: %s", own, words(chain))
		}
	}
}

func TestTidy(t *testing.T) {
	list := mods("a.x@v1.5.0", "b.x@v1.0.0", "c.x@v1.9.0", "b.x@v1.7.0", "a.x/y@v0.1.0")
	for needs, want := range map[string]string{
		"": "",
		// Higher, lower, or alike; by order, and each once.
		"c.x@v1.10.0 a.x@v1.0.0":               "a.x@v1.5.0 c.x@v1.9.0",
		"b.x@v1.7.0 b.x@v1.0.0 b.x@v1.0.1":     "b.x@v1.0.0",
		"b.x@v1.0.0 a.x@v1.5.0":                "a.x@v1.5.0 b.x@v1.0.0",
		"a.x/y@v0.0.1 a-x.x@v1.0.0 a.x@v1.0.0": "a-x.x@v1.0.0 a.x@v1.5.0 a.x/y@v0.1.0",
		// As it is, where the list has no such path; that may be more than one then.
		"d.x@v1.10.0 d.x@v1.9.0 d.x@v1.10.0": "d.x@v1.9.0 d.x@v1.10.0",
		"m.x@v1.0.0 a.x@v1.0.0":              "a.x@v1.5.0 m.x@v1.0.0",
		"A.x@v1.0.0":                         "A.x@v1.0.0",
	} {
		f := needing(strings.Fields(needs)...)
		// What is excluded or replaced is nothing here.
		f.Excludes = mods("a.x@v1.5.0", "d.x@v1.9.0")
		f.Replaces = []gomod.Replace{{Old: mod("b.x", ""), New: mod("./b", "")}}
		if all := Tidy(f, list); words(all) != want {
			t.Errorf("%s: %s, not %s", needs, words(all), want)
		}
	}
	if all := Tidy(needing("b.x@v1.0.0", "a.x@v1.0.0"), nil); words(all) != "a.x@v1.0.0 b.x@v1.0.0" {
		t.Error(words(all))
	}
}

// reached is what is reached, said by its words: nothing more comes of it.
func reached(f gomod.File, l []api.Entry) map[api.Mod]bool {
	all := map[api.Mod]bool{}
	for _, m := range starts(f, l) {
		all[m] = true
	}
	for more := true; more; {
		more = false
		for m := range maps.Clone(all) {
			needs, _ := rewrite.Needs(f, l, m)
			for _, n := range needs {
				more = more || !all[n]
				all[n] = true
			}
		}
	}
	return all
}

func starts(f gomod.File, l []api.Entry) []api.Mod {
	var all []api.Mod
	for _, r := range f.Requires {
		if n, _ := rewrite.Next(f, l, r.Mod); n.Path != f.Module {
			all = append(all, n)
		}
	}
	return all
}

// model is Reach by its words.
func model(f gomod.File, l []api.Entry, budget int) ([]api.Mod, api.Fault) {
	all := slices.SortedFunc(maps.Keys(reached(f, l)), cache.Order)
	if len(all) > max(budget, 0) || len(all) > api.MaxStep {
		return nil, api.Fault{E: api.ErrBudget}
	}
	for _, m := range all {
		if _, bad := rewrite.Needs(f, l, m); bad != (api.Fault{}) {
			return nil, bad
		}
	}
	return all, api.Fault{}
}

// chains is all shortest chains to m, up to so many steps.
func chains(f gomod.File, l []api.Entry, m api.Mod, most int) [][]api.Mod {
	var all [][]api.Mod
	for _, s := range starts(f, l) {
		all = append(all, []api.Mod{s})
	}
	for range most {
		var done, on [][]api.Mod
		for _, c := range all {
			last := c[len(c)-1]
			if last == m {
				done = append(done, c)
			}
			needs, _ := rewrite.Needs(f, l, last)
			for _, n := range needs {
				if !slices.Contains(c, n) {
					on = append(on, append(slices.Clone(c), n))
				}
			}
		}
		if len(done) > 0 {
			return done
		}
		all = on
	}
	return nil
}

// world is a main file and a cache by chance, the same ones for the same seed:
// of some modules, that may be excluded, replaced, missing or no module.
func world(r *rand.Rand, faults bool) (gomod.File, []api.Entry) {
	all := []string{"a.x@v1.0.0", "a.x@v1.2.0", "a.x@v1.10.0", "a-x.x@v0.1.0", "a.x/y@v0.1.0", "b.x@v1.0.0-rc", "b.x@v1.0.0", "c.x@v2.0.0+incompatible", "m.x@v1.0.0"}
	some := func(odds int) []string {
		var l []string
		for _, i := range r.Perm(len(all)) {
			if r.IntN(odds) == 0 {
				l = append(l, all[i])
			}
		}
		return l
	}
	f := needing(some(4)...)
	if r.IntN(2) == 0 {
		f.Excludes = mods(some(4)...)
	}
	if r.IntN(2) == 0 {
		f.Replaces = []gomod.Replace{{Old: mods(all[r.IntN(5)])[0], New: mod("./d", "")}, {Old: mod("b.x", ""), New: mod("a.x", "v1.0.0")}}[:1+r.IntN(2)]
	}
	l := []api.Entry{{Mod: mod("./d", ""), GoMod: text("d.x", some(4)...)}}
	for _, s := range all {
		x := entry(s, some(5)...)
		switch {
		case !faults || r.IntN(6) > 0:
			l = append(l, x)
		case r.IntN(2) > 0:
			x.GoMod = "junk\n"
			l = append(l, x)
		}
	}
	r.Shuffle(len(l), func(i, j int) { l[i], l[j] = l[j], l[i] })
	return f, l
}

func chance() *rand.Rand { return rand.New(rand.NewPCG(9, 9)) }

func TestReachByWords(t *testing.T) {
	r := chance()
	for i := range 3000 {
		f, l := world(r, i%2 > 0)
		for _, budget := range []int{20, r.IntN(9)} {
			want, fault := model(f, l, budget)
			if all, bad := Reach(f, l, budget); !slices.Equal(all, want) || bad != fault {
				t.Fatalf("%v of %v with %d: %s, %v, not %s, %v", f, l, budget, words(all), bad, words(want), fault)
			}
		}
	}
}

func TestWhyByWords(t *testing.T) {
	r := chance()
	for i := range 600 {
		f, l := world(r, i%2 > 0)
		all := reached(f, l)
		for _, m := range mods("a.x@v1.0.0", "a.x@v1.2.0", "a.x@v1.10.0", "a-x.x@v0.1.0", "a.x/y@v0.1.0", "b.x@v1.0.0-rc", "b.x@v1.0.0", "c.x@v2.0.0+incompatible", "m.x@v1.0.0", "./d") {
			var want []api.Mod
			if all[m] {
				want = slices.MinFunc(chains(f, l, m, len(all)), func(a, b []api.Mod) int { return slices.CompareFunc(a, b, cache.Order) })
			}
			if chain := Why(f, l, m); !slices.Equal(chain, want) {
				t.Fatalf("%v of %v: %v: %s, not %s", f, l, m, words(chain), words(want))
			}
		}
	}
}

// What follows for a build list, held against what is reached.
func TestBuildFollows(t *testing.T) {
	r := chance()
	lists := 0
	for range 2000 {
		f, l := world(r, false)
		list, bad := Build(f, l, 20)
		if bad != (api.Fault{}) {
			continue
		}
		lists++
		all := reached(f, l)
		least(t, list, all)
		if !slices.IsSortedFunc(list, func(a, b api.Mod) int { return paths.Compare(a.Path, b.Path) }) {
			t.Fatal(words(list))
		}
		for _, m := range list {
			needs, bad := rewrite.Needs(f, l, m)
			for _, n := range needs {
				if v, is := Selected(list, n.Path); !is || semver.Compare(v, n.Version) < 0 || bad != (api.Fault{}) {
					t.Fatalf("%s: %v needs %v", words(list), m, n)
				}
			}
		}
	}
	if lists < 500 {
		t.Error(lists)
	}
}

// least fails, unless the list has each path that is reached once, at the highest version.
func least(t *testing.T, list []api.Mod, all map[api.Mod]bool) {
	t.Helper()
	for i, m := range list {
		if !all[m] || slices.ContainsFunc(list[:i], func(n api.Mod) bool { return n.Path == m.Path }) {
			t.Fatalf("%s: %v", words(list), m)
		}
	}
	for m := range all {
		if v, is := Selected(list, m.Path); !is || semver.Compare(v, m.Version) < 0 {
			t.Fatalf("%s: %v", words(list), m)
		}
	}
}

// No order counts: not the cache's, not that of the requires.
func TestAnyOrder(t *testing.T) {
	l := []api.Entry{entry("a.x@v1.0.0", "b.x@v1.2.0", "c.x@v1.0.0"), entry("b.x@v1.0.0", "c.x@v1.0.0"), entry("b.x@v1.2.0", "d.x@v1.0.0"), entry("c.x@v1.0.0", "d.x@v1.0.0"), entry("d.x@v1.0.0")}
	for _, needs := range orders([]string{"a.x@v1.0.0", "b.x@v1.0.0", "c.x@v1.0.0"}) {
		for _, l := range orders(l) {
			f := needing(needs...)
			list, bad := Build(f, l, 5)
			if words(list) != "a.x@v1.0.0 b.x@v1.2.0 c.x@v1.0.0 d.x@v1.0.0" || bad != (api.Fault{}) {
				t.Fatalf("%s of %v: %s, %v", needs, l, words(list), bad)
			}
			if chain := Why(f, l, mod("d.x", "v1.0.0")); words(chain) != "c.x@v1.0.0 d.x@v1.0.0" {
				t.Fatalf("%s of %v: %s", needs, l, words(chain))
			}
		}
	}
	r := chance()
	for i := range 1000 {
		f, l := world(r, i%2 > 0)
		list, bad := Build(f, l, 6)
		slices.Reverse(f.Requires)
		r.Shuffle(len(l), func(i, j int) { l[i], l[j] = l[j], l[i] })
		if again, worse := Build(f, l, 6); !slices.Equal(again, list) || worse != bad {
			t.Fatalf("%v of %v: %s, %v, not %s, %v", f, l, words(again), worse, words(list), bad)
		}
	}
}

// With a require more no version is lower, and no path is gone.
func TestMoreRequires(t *testing.T) {
	r := chance()
	for range 1000 {
		f, l := world(r, false)
		list, bad := Build(f, l, 20)
		for _, m := range mods("a.x@v1.2.0", "b.x@v1.0.0-rc", "a.x/y@v0.1.0", "m.x@v1.0.0") {
			more := f
			more.Requires = append(slices.Clone(f.Requires), gomod.Require{Mod: m})
			greater, worse := Build(more, l, 20)
			if bad != (api.Fault{}) || worse != (api.Fault{}) {
				continue
			}
			for _, m := range list {
				if v, is := Selected(greater, m.Path); !is || semver.Compare(v, m.Version) < 0 {
					t.Fatalf("%v of %v: %s, then %s", f, l, words(list), words(greater))
				}
			}
		}
	}
}

// odd is modules of which many may not be.
func odd() []api.Mod {
	return append(mods("", "@v1.0.0", "a.x", "a.x@x", "a.x@v1", "a.x@v1.0.0", "a.x@v1.0.0+m", "a.x@v1.0.0+n", "a.x@v1.1.0", "./d", "./d@v1.0.0", "m.x"), mod("\xff", "\x00"))
}

// Calls end at all arguments, and answer as their words say, again and again.
func TestTotal(t *testing.T) {
	var l []api.Entry
	for i, m := range odd() {
		l = append(l, api.Entry{Mod: m, GoMod: []string{"", text("a.x", "a.x@v1.0.0"), "\xff", text("a.x", "a.x@v1.1.0", "b.x@v1.0.0")}[i%4]})
	}
	for i, m := range odd() {
		f := gomod.File{Module: m.Path, Requires: []gomod.Require{{Mod: m, Indirect: true}, {Mod: odd()[(i+5)%len(odd())]}, {Mod: m}}}
		for turn := range 3 {
			if turn > 0 {
				f.Module = "m.y"
			}
			if turn > 1 {
				f.Excludes = append(odd()[:i], m)
				f.Replaces = []gomod.Replace{{Old: m, New: m}, {New: m}, {Old: mod("a.x", "")}}
			}
			for _, l := range [][]api.Entry{nil, l, append(slices.Clone(l), l...)} {
				for _, budget := range []int{math.MinInt, 0, 1, 2, math.MaxInt} {
					want, fault := model(f, l, budget)
					if all, bad := Reach(f, l, budget); !slices.Equal(all, want) || bad != fault {
						t.Errorf("%v: %s, %v, not %s, %v", f, words(all), bad, words(want), fault)
					}
				}
				if a, b := told(f, l, m), told(f, l, m); a != b {
					t.Errorf("%s, then %s", a, b)
				}
			}
		}
	}
}

// told is what all calls answer.
func told(f gomod.File, l []api.Entry, m api.Mod) string {
	all, bad := Reach(f, l, 100)
	list, worse := Build(f, l, 100)
	version, is := Selected(odd(), m.Path)
	return fmt.Sprintf("%q %v %q %v %q %v %q %q", all, bad, list, worse, version, is, Why(f, l, m), Tidy(f, odd()))
}

// Of versions that differ in their Meta alone the last one as a text is the highest.
func TestBuildMeta(t *testing.T) {
	l := []api.Entry{{Mod: mod("a.x", "v1.0.0+b"), GoMod: text("a.x")}, {Mod: mod("a.x", "v1.0.0+a"), GoMod: text("a.x")}, entry("a.x@v1.0.0")}
	for _, needs := range orders([]string{"a.x@v1.0.0+b", "a.x@v1.0.0+a", "a.x@v1.0.0"}) {
		if list, bad := Build(needing(needs...), l, 3); words(list) != "a.x@v1.0.0+b" || bad != (api.Fault{}) {
			t.Error(words(list), bad)
		}
	}
}

// roomy is l with room behind it, in which the same stands again.
func roomy[T any](l []T) []T {
	return append(slices.Clone(l), l...)[:len(l)]
}

// What is handed in stays, and no answer has anything of it.
func TestApart(t *testing.T) {
	file := func() gomod.File {
		f := needing("c.x@v1.0.0", "b.x@v1.0.0", "a.x@v1.0.0", "c.x@v1.0.0")
		f.Requires = roomy(f.Requires)
		f.Excludes = roomy(mods("b.x@v1.0.0", "a.x@v1.0.0"))
		f.Replaces = roomy([]gomod.Replace{{Old: mod("d.x", ""), New: mod("./d", "")}})
		f.Retracts = roomy([]gomod.Retract{{Low: "v1.0.0", High: "v1.0.0"}})
		return f
	}
	entries := func() []api.Entry {
		l := []api.Entry{entry("c.x@v1.0.0", "d.x@v1.0.0"), entry("b.x@v1.1.0", "a.x@v1.0.0"), entry("a.x@v1.1.0"), {Mod: mod("./d", ""), GoMod: text("d.x")}}
		for i := range l {
			l[i].Files = roomy([]api.File{{Path: "b"}, {Path: "a"}})
		}
		return roomy(l)
	}
	whole := func(f gomod.File, l []api.Entry, list []api.Mod) string {
		s := fmt.Sprintf("%q %v %q %q %q %q", f.Module+f.Go, f.Requires[:cap(f.Requires)], f.Excludes[:cap(f.Excludes)], f.Replaces[:cap(f.Replaces)], f.Retracts[:cap(f.Retracts)], list[:cap(list)])
		for _, x := range l[:cap(l)] {
			s += fmt.Sprintf("%q %q %q", x.Mod, x.GoMod, x.Files[:cap(x.Files)])
		}
		return s
	}
	f, l, list := file(), entries(), roomy(mods("c.x@v1.5.0", "a.x@v1.2.0"))
	before := whole(f, l, list)
	answers := func() [][]api.Mod {
		all, bad := Reach(f, l, 4)
		built, worse := Build(f, l, 4)
		if bad != (api.Fault{}) || worse != (api.Fault{}) {
			t.Fatal(bad, worse)
		}
		return [][]api.Mod{all, built, Why(f, l, mod("d.x", "v1.0.0")), Tidy(f, list)}
	}
	first := answers()
	want := fmt.Sprint(first)
	for _, a := range first {
		if len(a) == 0 {
			t.Error(want)
		}
		a = a[:cap(a)]
		for i := range a {
			a[i] = mod("other", "other")
		}
	}
	if whole(f, l, list) != before || !reflect.DeepEqual(file(), f) {
		t.Error("what was handed in is changed, or shared")
	}
	if again := fmt.Sprint(answers()); again != want {
		t.Errorf("%s, then %s", want, again)
	}
}
