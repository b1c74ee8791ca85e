package rewrite

import (
	"fmt"
	"reflect"
	"slices"
	"strings"
	"testing"

	"graftbed/api"
	"graftbed/cache"
	"graftbed/gomod"
	"graftbed/semver"
)

func mod(path, version string) api.Mod { return api.Mod{Path: path, Version: version} }

func entry(path, version, gomod string) api.Entry {
	return api.Entry{Mod: mod(path, version), GoMod: gomod}
}

// parsed is what a go.mod file says that is well.
func parsed(t *testing.T, s string) gomod.File {
	t.Helper()
	f, bad := gomod.Parse(s)
	if bad != (api.Fault{}) {
		t.Fatal(bad)
	}
	return f
}

// excluding is a file that excludes these.
func excluding(l ...api.Mod) gomod.File { return gomod.File{Module: "m.x", Excludes: l} }

// having is a cache of the module path a.b at these versions.
func having(versions ...string) []api.Entry {
	var l []api.Entry
	for _, v := range versions {
		l = append(l, entry("a.b", v, ""))
	}
	return l
}

// subsets tells each choice of the list's elements, in their order.
func subsets[T any](l []T) [][]T {
	all := [][]T{nil}
	for _, x := range l {
		for _, s := range slices.Clone(all) {
			all = append(all, append(slices.Clone(s), x))
		}
	}
	return all
}

// orders tells the list in each order; it should be short.
func orders[T any](l []T) [][]T {
	if len(l) == 0 {
		return [][]T{nil}
	}
	var all [][]T
	for i := range l {
		for _, rest := range orders(slices.Delete(slices.Clone(l), i, i+1)) {
			all = append(all, append([]T{l[i]}, rest...))
		}
	}
	return all
}

// odd is modules of which many may not be.
func odd() []api.Mod {
	return []api.Mod{
		{}, mod("", "v1.0.0"), mod("a.b", ""), mod("a.b", "x"), mod("a.b", "v1"), mod("a.b", "v1.0.0"), mod("a.b", "v1.0.0+m"), mod("a.b", "v1.0.0-a"),
		mod("a.b", "v1.1.0"), mod("a.b", "v10.0.0+incompatible"), mod("a.b/c", "v1.0.0"), mod("./x", ""), mod("./x", "v1.0.0"), mod("\xff", "\x00"),
	}
}

func TestExcluded(t *testing.T) {
	f := parsed(t, "module m.x\nexclude (\n\ta.b v1.0.0\n\tc.d v1.2.0-rc\n\ta.b v2.0.0+incompatible\n)\nrequire e.f v1.0.0\nreplace g.h v1.0.0 => ./x\nretract v1.0.0")
	for m, want := range map[api.Mod]bool{
		mod("a.b", "v1.0.0"): true, mod("c.d", "v1.2.0-rc"): true, mod("a.b", "v2.0.0+incompatible"): true,
		// Both, as texts: what is alike as a version is another one.
		mod("a.b", "v1.0.0+m"): false, mod("a.b", "v2.0.0"): false, mod("a.b", "v1.2.0-rc"): false, mod("c.d", "v1.0.0"): false, mod("a.b", "v1.0.1"): false,
		mod("a.b", ""): false, mod("", "v1.0.0"): false, mod("", ""): false, mod("A.b", "v1.0.0"): false, mod("a.b/c", "v1.0.0"): false,
		// Only excludes exclude.
		mod("e.f", "v1.0.0"): false, mod("g.h", "v1.0.0"): false, mod("m.x", "v1.0.0"): false,
	} {
		if is := Excluded(f, m); is != want {
			t.Errorf("%q: %v", m, is)
		}
	}
	for _, m := range odd() {
		if !Excluded(excluding(mod("z.z", "v1.0.0"), m), m) || Excluded(gomod.File{}, m) {
			t.Errorf("%q", m)
		}
	}
}

func TestNext(t *testing.T) {
	a := func(v string) api.Mod { return mod("a.b", v) }
	for i, c := range []struct {
		f    gomod.File
		l    []api.Entry
		m    api.Mod
		want api.Mod
		is   bool
	}{
		{excluding(a("v1.0.0")), having("v1.0.1"), a("v1.0.0"), a("v1.0.1"), true},
		// What is not excluded is its own, in the cache or not.
		{excluding(), nil, a("v1.0.0"), a("v1.0.0"), true},
		{excluding(a("v1.1.0")), having("v1.1.0", "v1.2.0"), a("v1.0.0"), a("v1.0.0"), true},
		{excluding(a("v1.0.0")), having("v1.1.0"), a("v1.0.0+m"), a("v1.0.0+m"), true},
		{excluding(mod("c.d", "v1.0.0")), having("v1.1.0"), a("v1.0.0"), a("v1.0.0"), true},
		// The least of those that are higher, wherever it stands; not the one that was excluded.
		{excluding(a("v1.0.0")), having("v1.10.0", "v1.2.0", "v0.9.0", "v1.0.0", "v1.3.0"), a("v1.0.0"), a("v1.2.0"), true},
		{excluding(a("v1.0.0-rc")), having("v1.1.0", "v1.0.0", "v1.0.0-beta", "v1.0.0-rc", "v1.0.0-rc.1"), a("v1.0.0-rc"), a("v1.0.0-rc.1"), true},
		{excluding(a("v1.0.0")), having("v2.0.0+incompatible"), a("v1.0.0"), a("v2.0.0+incompatible"), true},
		// On and on over those that are excluded too.
		{excluding(a("v1.0.0"), a("v1.1.0"), a("v1.2.0")), having("v1.3.0", "v1.2.0", "v1.1.0"), a("v1.0.0"), a("v1.3.0"), true},
		{excluding(a("v1.2.0"), a("v1.0.0")), having("v1.1.0", "v1.2.0"), a("v1.0.0"), a("v1.1.0"), true},
		{excluding(a("v1.2.0"), a("v1.0.0")), having("v1.3.0", "v1.2.0"), a("v1.0.0"), a("v1.3.0"), true},
		// There is none.
		{excluding(a("v1.0.0")), nil, a("v1.0.0"), a("v1.0.0"), false},
		{excluding(a("v1.0.0")), having("v1.0.0", "v0.9.0", "v1.0.0-rc"), a("v1.0.0"), a("v1.0.0"), false},
		{excluding(a("v1.0.0"), a("v1.1.0")), having("v1.0.0", "v1.1.0"), a("v1.0.0"), a("v1.0.0"), false},
		{excluding(a("v1.0.0")), []api.Entry{entry("a.b/c", "v1.1.0", ""), entry("c.d", "v1.1.0", ""), entry("./a.b", "", "")}, a("v1.0.0"), a("v1.0.0"), false},
		{excluding(a("v1.0.0")), having("v1.0.0+m"), a("v1.0.0"), a("v1.0.0"), false},
		// The same version of another path does not stop the search.
		{excluding(a("v1.0.0"), mod("c.d", "v1.1.0")), having("v1.1.0"), a("v1.0.0"), a("v1.1.0"), true},
		// Empty ones are none, nor is what can't be parsed; above that is all that can.
		{excluding(a("")), having("", "x"), a(""), a(""), false},
		{excluding(a("x")), having("", "y", "v1"), a("x"), a("x"), false},
		{excluding(a("x")), having("", "v1.1.0", "v1.0.0"), a("x"), a("v1.0.0"), true},
		{excluding(mod("./x", "")), []api.Entry{entry("./x", "", "")}, mod("./x", ""), mod("./x", ""), false},
		// A replacement, a retract or a require says nothing of it.
		{gomod.File{Module: "m.x", Excludes: []api.Mod{a("v1.0.0")}, Replaces: []gomod.Replace{{Old: a("v1.1.0"), New: mod("./x", "")}}, Retracts: []gomod.Retract{{Low: "v1.1.0", High: "v1.1.0"}}}, having("v1.1.0", "v1.2.0"), a("v1.0.0"), a("v1.1.0"), true},
	} {
		if m, is := Next(c.f, c.l, c.m); m != c.want || is != c.is {
			t.Errorf("%d: %q, %v, not %q, %v", i, m, is, c.want, c.is)
		}
	}
}

// least is Next said by words: of all that could be told the one that none is below.
func least(f gomod.File, l []api.Entry, m api.Mod) (api.Mod, bool) {
	if !slices.Contains(f.Excludes, m) {
		return m, true
	}
	best, is := m, false
	for _, x := range l {
		v := x.Mod.Version
		if x.Mod.Path != m.Path || v == "" || semver.Compare(v, m.Version) <= 0 || slices.Contains(f.Excludes, x.Mod) {
			continue
		}
		if !is || semver.Compare(v, best.Version) < 0 {
			best, is = x.Mod, true
		}
	}
	return best, is
}

// All caches and all excludes of some versions, and what follows for each.
func TestNextFollows(t *testing.T) {
	versions := []string{"v1.0.0-rc", "v1.0.0", "v1.2.0", "v1.10.0", ""}
	var mods []api.Mod
	for _, v := range versions {
		mods = append(mods, mod("a.b", v))
	}
	for _, out := range subsets(mods) {
		f := excluding(out...)
		for _, have := range subsets(versions) {
			l := append(having(have...), entry("a.b/c", "v1.1.0", ""))
			slices.Reverse(l)
			for _, m := range mods {
				n, is := Next(f, l, m)
				if want, well := least(f, l, m); n != want || is != well {
					t.Fatalf("without %q of %q: next of %q: %q, %v", out, have, m, n, is)
				}
				if !is {
					continue
				}
				if Excluded(f, n) || n.Path != m.Path || semver.Compare(n.Version, m.Version) < 0 {
					t.Fatalf("without %q of %q: %q is no next one of %q", out, have, n, m)
				}
				if again, is := Next(f, l, n); again != n || !is {
					t.Fatalf("without %q of %q: %q has another next one, %q, %v", out, have, n, again, is)
				}
			}
		}
	}
}

// In whatever order the cache and the excludes stand; also of versions that differ in their Meta alone.
func TestNextAnyOrder(t *testing.T) {
	a := func(v string) api.Mod { return mod("a.b", v) }
	for _, out := range orders([]api.Mod{a("v1.0.0"), a("v1.1.0"), mod("c.d", "v1.2.0")}) {
		for _, have := range orders([]string{"v1.1.0", "v1.2.0+b", "v1.2.0+a", "v1.3.0"}) {
			if m, is := Next(excluding(out...), having(have...), a("v1.0.0")); m != a("v1.2.0+a") || !is {
				t.Fatalf("%q: %q, %v", have, m, is)
			}
		}
	}
}

func TestReplaced(t *testing.T) {
	text := "module m.x\nreplace a.b => ./any\nreplace a.b v1.5.0 => e.f v1.0.0\nreplace a.b v1.6.0 => ../six\nreplace c.d v1.0.0 => a.b v1.5.0\nreplace g.h => a.b/c v1.7.0\n"
	f := parsed(t, text)
	for m, want := range map[api.Mod]api.Mod{
		// That of the version itself, though one of all versions stands ahead.
		mod("a.b", "v1.5.0"): mod("e.f", "v1.0.0"), mod("a.b", "v1.6.0"): mod("../six", ""),
		mod("a.b", "v1.0.0"): mod("./any", ""), mod("a.b", "v1.5.1"): mod("./any", ""), mod("a.b", "v1.5.0+m"): mod("./any", ""), mod("a.b", ""): mod("./any", ""), mod("a.b", "x"): mod("./any", ""),
		// Once: what stands in its place is not replaced again.
		mod("c.d", "v1.0.0"): mod("a.b", "v1.5.0"), mod("g.h", "v9.9.9"): mod("a.b/c", "v1.7.0"),
	} {
		if n, is := Replaced(f, m); n != want || !is {
			t.Errorf("%q: %q, %v, not %q", m, n, is, want)
		}
	}
	for _, m := range []api.Mod{mod("c.d", "v1.0.1"), mod("c.d", ""), mod("e.f", "v1.0.0"), mod("./any", ""), mod("a.b/c", "v1.7.0"), mod("a", "v1.5.0"), mod("A.b", "v1.5.0"), mod("m.x", "v1.0.0"), {}} {
		if n, is := Replaced(f, m); n != m || is {
			t.Errorf("%q: %q, %v", m, n, is)
		}
	}
}

// Of replaces with the same Old, that no file has, the first one.
func TestReplacedFirst(t *testing.T) {
	to := func(old api.Mod, s string) gomod.Replace { return gomod.Replace{Old: old, New: mod(s, "")} }
	one, all, other := mod("a.b", "v1.0.0"), mod("a.b", ""), mod("a.c", "v1.0.0")
	for _, c := range []struct {
		l    []gomod.Replace
		want string
	}{
		{[]gomod.Replace{to(one, "./1"), to(one, "./2")}, "./1"},
		{[]gomod.Replace{to(all, "./1"), to(all, "./2")}, "./1"},
		{[]gomod.Replace{to(all, "./1"), to(one, "./2"), to(one, "./3"), to(all, "./4")}, "./2"},
		{[]gomod.Replace{to(other, "./1"), to(all, "./2"), to(all, "./3")}, "./2"},
		{[]gomod.Replace{to(mod("", "v1.0.0"), "./1"), to(mod("", ""), "./2"), to(all, "./3")}, "./3"},
		{[]gomod.Replace{to(one, "")}, ""},
	} {
		if n, is := Replaced(gomod.File{Replaces: c.l}, one); n != mod(c.want, "") || !is {
			t.Errorf("%v: %q, %v", c.l, n, is)
		}
	}
}

func TestSource(t *testing.T) {
	f := parsed(t, "module m.x\nreplace a.b => ./any\nreplace a.b v1.5.0 => e.f v1.0.0\nreplace c.d => ./none\nexclude e.f v1.0.0\nexclude g.h v1.0.0")
	l := []api.Entry{
		entry("a.b", "v1.0.0", "0"), entry("a.b", "v1.5.0", "1"), entry("c.d", "v1.0.0", "2"), entry("e.f", "v1.0.0", "3"),
		entry("./any", "", "4"), entry("g.h", "v1.0.0", "5"), entry("g.h", "v1.1.0", "6"), entry("g.h", "v1.1.0", "7"), entry("m.x", "v1.0.0", "8"),
	}
	l[4].Files = []api.File{{Path: "a.go", Data: "package a"}, {Path: "b/b.go"}}
	for m, want := range map[api.Mod]int{
		mod("a.b", "v1.0.0"): 4, mod("a.b", "v7.7.7"): 4, mod("a.b", ""): 4, mod("./any", ""): 4, mod("a.b", "v1.5.0"): 3, mod("e.f", "v1.0.0"): 3,
		// What is excluded is told too, and of two the first one.
		mod("g.h", "v1.0.0"): 5, mod("g.h", "v1.1.0"): 6, mod("m.x", "v1.0.0"): 8,
	} {
		if x, is := Source(f, l, m); !is || !reflect.DeepEqual(x, l[want]) {
			t.Errorf("%q: %v, %v", m, x, is)
		}
	}
	// Of what is replaced by nothing in the cache there is none, though it stands there itself.
	for _, m := range []api.Mod{mod("c.d", "v1.0.0"), mod("g.h", "v1.2.0"), mod("g.h", ""), mod("g.h", "v1.0.0+m"), mod("./none", ""), mod("./any", "v1.0.0"), {}} {
		if x, is := Source(f, l, m); is || !reflect.DeepEqual(x, api.Entry{}) {
			t.Errorf("%q: %v, %v", m, x, is)
		}
	}
}

func TestRetracted(t *testing.T) {
	f := parsed(t, "module m.x\nretract v1.0.0 // bad\nretract [v1.2.0 v1.4.0]\nretract [v1.3.0 v1.6.0] // worse\nretract v1.0.0 // again\nretract [v2.0.0-b v2.0.0-d]// pre\nexclude m.y v1.1.0")
	for version, want := range map[string]string{
		"v1.0.0": "bad", "v1.0.0+m": "bad", "v1.2.0": "", "v1.3.0": "", "v1.3.5": "", "v1.4.0": "", "v1.4.0+m": "", "v1.4.0-rc": "",
		"v1.4.1": "worse", "v1.6.0": "worse", "v1.5.99": "worse", "v2.0.0-b": "pre", "v2.0.0-c.7": "pre", "v2.0.0-d": "pre",
		"v1.1.0": "-", "v1.10.0": "-", "v1.0.1": "-", "v1.0.0-a": "-", "v1.2.0-rc": "-", "v1.6.1": "-", "v0.9.0": "-", "v2.0.0-a": "-", "v2.0.0-d.0": "-", "v2.0.0": "-",
		"": "-", "x": "-", "v1": "-", "1.0.0": "-", "v1.3": "-", " v1.0.0": "-", "v01.3.0": "-", "v1.3.0+": "-", "v1.3.0+" + strings.Repeat("m", 60): "-",
	} {
		why, is := Retracted(f, version)
		if want == "-" && (is || why != "") || want != "-" && (!is || why != want) {
			t.Errorf("%q: %q, %v, not %q", version, why, is, want)
		}
	}
}

// Of retracts that no file has: an end that can't be parsed stands below all versions.
func TestRetractedOdd(t *testing.T) {
	for i, c := range []struct {
		r       gomod.Retract
		version string
		is      bool
	}{
		{gomod.Retract{Low: "", High: "v1.0.0"}, "v0.0.0-0", true}, {gomod.Retract{Low: "x", High: "v1.0.0"}, "v1.0.0", true}, {gomod.Retract{Low: "x", High: "v1.0.0"}, "v1.0.1", false},
		{gomod.Retract{Low: "v0.0.0", High: ""}, "v0.0.0", false}, {gomod.Retract{Low: "", High: ""}, "v0.0.0", false},
		{gomod.Retract{Low: "", High: ""}, "", false}, {gomod.Retract{Low: "x", High: "x"}, "x", false}, {gomod.Retract{Low: "", High: "v1.0.0"}, "x", false},
		{gomod.Retract{Low: "v1.2.0", High: "v1.0.0"}, "v1.1.0", false}, {gomod.Retract{Low: "v1.0.0+a", High: "v1.0.0+b"}, "v1.0.0", true},
	} {
		c.r.Why = "why"
		want := ""
		if c.is {
			want = "why"
		}
		if why, is := Retracted(gomod.File{Retracts: []gomod.Retract{c.r}}, c.version); is != c.is || why != want {
			t.Errorf("%d: %q, %v", i, why, is)
		}
	}
	if why, is := Retracted(gomod.File{}, "v1.0.0"); is || why != "" {
		t.Error(why, is)
	}
}

// The file of the main module, and the cache, of which Needs is asked.
func needed(t *testing.T) (gomod.File, []api.Entry) {
	f := parsed(t, "module m.x\nrequire a.b v1.0.0\nexclude a.b v1.0.0\nexclude a.b v1.1.0\nexclude c.d v1.0.0\nreplace c.d => ./c\nreplace c.d v1.5.0 => e.f v1.0.0\nreplace c.d v1.6.0 => e.f v1.1.0\nreplace g.h => ./none\nreplace i.j => i.j v1.1.0\n")
	return f, []api.Entry{
		entry("a.b", "v1.3.0", ""),
		entry("a.b", "v1.1.0", "module a.b\nrequire e.f v0.1.0"),
		entry("a.b", "v1.2.0", "module a.b\nrequire z.z v1.0.0 // indirect\nrequire a.b v1.0.0\nrequire m.x v1.9.0\nrequire c.d v1.0.0\nrequire (\n\te.f v0.1.0\n\tm.x/y v1.0.0\n)\nexclude e.f v0.1.0\nreplace z.z => ./z\n"),
		entry("a.b", "v0.9.0", "module other.x\nrequire e.f v0.1.0\n"),
		entry("a.b", "v0.8.0", "module a.b\n\nrequire e.f v0.1\n"),
		entry("a.b", "v0.7.0", "module other.x\nrequire e.f v0.1\n"),
		entry("a.b", "v0.6.0", "module a.b\nrequire m.x v1.0.0"),
		entry("c.d", "v1.0.0", "module c.d\nrequire z.z v1.0.0"),
		entry("./c", "", "module z.z\nrequire a.b v1.1.0\n"),
		entry("e.f", "v1.0.0", "jump\n"),
		entry("e.f", "v1.1.0", "module e.f\nrequire (\n"),
		entry("g.h", "v1.0.0", "module g.h\n"),
		entry("i.j", "v1.1.0", "module other.x\nrequire c.d v1.5.0\n"),
		entry("k.l", "", "module k.l\nrequire a.b v1.2.0\n"),
		entry("m.x", "v1.0.0", "module m.x\nrequire m.x v1.0.0\nrequire e.f v0.1.0\n"),
	}
}

func TestNeeds(t *testing.T) {
	f, l := needed(t)
	for m, want := range map[api.Mod][]api.Mod{
		// In its order, and but for the main module, whatever its version; what has no next one stays as it is.
		mod("a.b", "v1.2.0"): {mod("z.z", "v1.0.0"), mod("a.b", "v1.2.0"), mod("c.d", "v1.0.0"), mod("e.f", "v0.1.0"), mod("m.x/y", "v1.0.0")},
		mod("a.b", "v0.6.0"): nil,
		// That m itself is excluded is nothing here.
		mod("a.b", "v1.1.0"): {mod("e.f", "v0.1.0")},
		// Of what stands in its place, whatever that is called.
		mod("c.d", "v1.0.0"): {mod("a.b", "v1.2.0")}, mod("c.d", "v1.7.0"): {mod("a.b", "v1.2.0")}, mod("c.d", ""): {mod("a.b", "v1.2.0")},
		mod("i.j", "v1.0.0"): {mod("c.d", "v1.5.0")}, mod("i.j", "v1.1.0"): {mod("c.d", "v1.5.0")},
		mod("k.l", ""): {mod("a.b", "v1.2.0")}, mod("m.x", "v1.0.0"): {mod("e.f", "v0.1.0")},
	} {
		if n, bad := Needs(f, l, m); !slices.Equal(n, want) || bad != (api.Fault{}) {
			t.Errorf("%q: %q, %v, not %q", m, n, bad, want)
		}
	}
}

func TestNeedsWrong(t *testing.T) {
	f, l := needed(t)
	for _, c := range []struct {
		m    api.Mod
		e    api.Errno
		path string
		line int
	}{
		{mod("q.q", "v1.0.0"), api.ErrMissing, "q.q@v1.0.0", 0},
		{mod("a.b", "v1.0.0"), api.ErrMissing, "a.b@v1.0.0", 0},
		{mod("a.b", ""), api.ErrMissing, "a.b", 0},
		{mod("", ""), api.ErrMissing, "", 0},
		// Its place is taken by what is not there: its own word is told.
		{mod("g.h", "v1.0.0"), api.ErrMissing, "g.h@v1.0.0", 0},
		{mod("c.d", "v1.5.0"), api.ErrVerb, "c.d@v1.5.0", 1},
		{mod("c.d", "v1.6.0"), api.ErrWords, "c.d@v1.6.0", 2},
		{mod("e.f", "v1.0.0"), api.ErrVerb, "e.f@v1.0.0", 1},
		{mod("a.b", "v1.3.0"), api.ErrNone, "a.b@v1.3.0", 0},
		{mod("a.b", "v0.8.0"), api.ErrVersion, "a.b@v0.8.0", 3},
		{mod("a.b", "v0.9.0"), api.ErrCache, "a.b@v0.9.0", 0},
		// What can't be read is told ahead of the name; a directory that stands in no place goes by its own.
		{mod("a.b", "v0.7.0"), api.ErrVersion, "a.b@v0.7.0", 2},
		{mod("./c", ""), api.ErrCache, "./c", 0},
	} {
		want := api.Fault{E: c.e, Path: c.path, Line: c.line}
		if n, bad := Needs(f, l, c.m); len(n) != 0 || bad != want {
			t.Errorf("%q: %q, %v, not %v", c.m, n, bad, want)
		}
	}
}

// A file that no go.mod file tells: what has no name bars nothing.
func TestNeedsOfNoModule(t *testing.T) {
	_, l := needed(t)
	want := []api.Mod{mod("m.x", "v1.0.0"), mod("e.f", "v0.1.0")}
	if n, bad := Needs(gomod.File{}, l, mod("m.x", "v1.0.0")); !slices.Equal(n, want) || bad != (api.Fault{}) {
		t.Error(n, bad)
	}
}

// Needs said by its words, for all modules that the cache or the file names, and in some orders of the cache.
func TestNeedsByWords(t *testing.T) {
	f, l := needed(t)
	asked := odd()
	for _, x := range l {
		asked = append(asked, x.Mod)
	}
	for turn := range len(l) {
		turned := slices.Concat(l[turn:], l[:turn])
		for _, m := range asked {
			want, bad := byWords(f, turned, m)
			if n, fault := Needs(f, turned, m); !slices.Equal(n, want) || fault != bad {
				t.Errorf("%d: %q: %q, %v, not %q, %v", turn, m, n, fault, want, bad)
			}
		}
	}
}

func byWords(f gomod.File, l []api.Entry, m api.Mod) ([]api.Mod, api.Fault) {
	instead, is := Replaced(f, m)
	x, found := cache.Find(l, instead)
	g, bad := gomod.Parse(x.GoMod)
	bad.Path = cache.At(m)
	switch {
	case !found:
		return nil, api.Fault{E: api.ErrMissing, Path: bad.Path}
	case bad.E != api.OK:
		return nil, bad
	case !is && g.Module != m.Path:
		return nil, api.Fault{E: api.ErrCache, Path: bad.Path}
	}
	var all []api.Mod
	for _, r := range g.Requires {
		if n, _ := Next(f, l, r.Mod); n.Path != f.Module {
			all = append(all, n)
		}
	}
	return all, api.Fault{}
}

// Calls end at all arguments, and answer the same again.
func TestTotal(t *testing.T) {
	var files []gomod.File
	for _, m := range odd() {
		f := excluding(m, m)
		f.Module = m.Path
		f.Replaces = []gomod.Replace{{Old: m, New: m}, {New: m}}
		f.Retracts = []gomod.Retract{{Low: m.Version, High: m.Version}}
		files = append(files, f, gomod.File{Excludes: []api.Mod{m}})
	}
	var l []api.Entry
	for i, m := range odd() {
		l = append(l, entry(m.Path, m.Version, []string{"", "module a.b\n", "\xff", "module a.b\nrequire a.b v1.0.0\n"}[i%4]))
	}
	all := func(f gomod.File, m api.Mod) string {
		n, next := Next(f, l, m)
		r, replaced := Replaced(f, m)
		x, found := Source(f, l, m)
		why, retracted := Retracted(f, m.Version)
		needs, bad := Needs(f, l, m)
		return fmt.Sprintf("%v %q %v %q %v %q %v %q %v %q %v", Excluded(f, m), n, next, r, replaced, x, found, why, retracted, needs, bad)
	}
	for _, f := range files {
		for _, m := range odd() {
			if a, b := all(f, m), all(f, m); a != b {
				t.Errorf("%s, then %s", a, b)
			}
		}
	}
}

// held is all that the cache's lists hold, what stands behind their lengths too.
func held(l []api.Entry) []api.Entry {
	all := slices.Clone(l[:cap(l)])
	for i, x := range all {
		all[i].Files = slices.Clone(x.Files[:cap(x.Files)])
	}
	return all
}

// roomyCache has room behind its lists, in which something stands.
func roomyCache(t *testing.T) []api.Entry {
	_, l := needed(t)
	for i := range l {
		l[i].Files = append(make([]api.File, 0, 4), api.File{Path: "a"}, api.File{Path: "b"})[:1]
	}
	return slices.Grow(l, 2)
}

// roomyFile has room behind its lists, in which something stands.
func roomyFile(t *testing.T) gomod.File {
	f, _ := needed(t)
	f.Requires = append(f.Requires, gomod.Require{Mod: mod("z.y", "v1.0.0")})[:len(f.Requires)]
	f.Excludes = append(f.Excludes, mod("a.b", "v1.2.0"))[:len(f.Excludes)]
	f.Replaces = append(f.Replaces, gomod.Replace{Old: mod("a.b", ""), New: mod("./c", "")})[:len(f.Replaces)]
	f.Retracts = append(f.Retracts, gomod.Retract{Low: "v0.0.0", High: "v9.0.0"})[:len(f.Retracts)]
	return f
}

func wholeFile(f gomod.File) string {
	return fmt.Sprintf("%q %v %q %q %q", f.Module+f.Go, f.Requires[:cap(f.Requires)], f.Excludes[:cap(f.Excludes)], f.Replaces[:cap(f.Replaces)], f.Retracts[:cap(f.Retracts)])
}

// What is handed in stays, and no answer has anything of it.
func TestApart(t *testing.T) {
	_, asked := needed(t)
	for _, a := range asked {
		f, l := roomyFile(t), roomyCache(t)
		file, before := wholeFile(f), held(l)
		Excluded(f, a.Mod)
		Next(f, l, a.Mod)
		Replaced(f, a.Mod)
		Retracted(f, a.Mod.Version)
		x, _ := Source(f, l, a.Mod)
		needs, _ := Needs(f, l, a.Mod)
		files := x.Files[:cap(x.Files)]
		for i := range files {
			files[i] = api.File{Path: "other"}
		}
		needs = needs[:cap(needs)]
		for i := range needs {
			needs[i] = mod("other", "other")
		}
		if wholeFile(f) != file || !reflect.DeepEqual(held(l), before) {
			t.Errorf("%q: what was handed in is changed, or shared", a.Mod)
		}
	}
}
