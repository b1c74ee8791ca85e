package cache

import (
	"fmt"
	"reflect"
	"slices"
	"strings"
	"testing"

	"graftbed/api"
	"graftbed/gomod"
	"graftbed/paths"
	"graftbed/semver"
	"graftbed/tree"
)

func mod(path, version string) api.Mod { return api.Mod{Path: path, Version: version} }

func entry(path, version string) api.Entry { return api.Entry{Mod: mod(path, version)} }

// with is the entry with a go.mod file and files of these paths.
func with(x api.Entry, gomod string, files ...string) api.Entry {
	x.GoMod = gomod
	for _, p := range files {
		x.Files = append(x.Files, api.File{Path: p, Data: "of " + p})
	}
	return x
}

// same tells whether entries are the same, with or without nil.
func same(a, b []api.Entry) bool {
	return slices.EqualFunc(a, b, func(x, y api.Entry) bool {
		return x.Mod == y.Mod && x.GoMod == y.GoMod && slices.Equal(x.Files, y.Files)
	})
}

// orders tells the list in each order; it should be short.
func orders[T any](l []T) [][]T {
	if len(l) == 0 {
		return [][]T{nil}
	}
	var all [][]T
	for i := range l {
		for _, rest := range orders(slices.Delete(slices.Clone(l), i, i+1)) {
			all = append(all, append([]T{l[i]}, rest...))
		}
	}
	return all
}

// rising is modules as Order has them: many are none that may be.
func rising() []api.Mod {
	return []api.Mod{
		mod("", ""), mod("", "x"), mod("", "v1.0.0"),
		// By elements, not by bytes: "." is less than "..", though "./" is not.
		mod("/", ""), mod(".", ""), mod("./x", ""), mod("./x", "v1.0.0"), mod("./x/y", ""), mod("..", ""), mod("../", ""), mod("../x", ""),
		mod("a", "v9.0.0"), mod("a/b", ""), mod("a-b", ""),
		mod("a.b", ""), mod("a.b", "1.0.0"), mod("a.b", "v1"), mod("a.b", "v2"), mod("a.b", "w"),
		mod("a.b", "v0.9.0"), mod("a.b", "v1.0.0-2"), mod("a.b", "v1.0.0-10"), mod("a.b", "v1.0.0-a"), mod("a.b", "v1.0.0-a.1"),
		mod("a.b", "v1.0.0"), mod("a.b", "v1.0.0+a"), mod("a.b", "v1.0.0+b"), mod("a.b", "v1.2.0"), mod("a.b", "v1.10.0"),
		mod("a.b", "v2.0.0"), mod("a.b", "v2.0.0+incompatible"), mod("a.b", "v10.0.0+incompatible"),
		mod("a.b/c", "v0.0.0"), mod("a.b/v2", "v2.0.0"), mod("a.b-c", "v0.0.0"), mod("a.c", "v0.0.0"), mod("\xff", ""),
	}
}

func TestAt(t *testing.T) {
	for m, want := range map[api.Mod]string{
		mod("a.b", "v1.0.0"): "a.b@v1.0.0", mod("a.b/v2", "v2.0.0-pre"): "a.b/v2@v2.0.0-pre", mod("a.b", "v2.0.0+incompatible"): "a.b@v2.0.0+incompatible",
		mod("./x", ""): "./x", mod("a.b", ""): "a.b", mod("", ""): "", mod("", "v1.0.0"): "@v1.0.0", mod("a@b", "@"): "a@b@@", mod("\xff", "\x00"): "\xff@\x00",
	} {
		if s := At(m); s != want {
			t.Errorf("At(%q): %q, not %q", m, s, want)
		}
	}
}

func TestOrder(t *testing.T) {
	l := rising()
	for i, a := range l {
		for j, b := range l {
			want := 0
			if i < j {
				want = -1
			} else if i > j {
				want = 1
			}
			if c := Order(a, b); c != want {
				t.Errorf("Order(%q, %q): %d, not %d", a, b, c, want)
			}
		}
	}
}

// The first of three that tells two apart: the paths, the versions, their texts.
func TestOrderByWords(t *testing.T) {
	for _, a := range rising() {
		for _, b := range rising() {
			want := 0
			for _, c := range []int{paths.Compare(a.Path, b.Path), semver.Compare(a.Version, b.Version), strings.Compare(a.Version, b.Version)} {
				if want == 0 {
					want = c
				}
			}
			if c := Order(a, b); c != want {
				t.Errorf("Order(%q, %q): %d, not %d", a, b, c, want)
			}
		}
	}
}

func TestKnown(t *testing.T) {
	elem := strings.Repeat("a", 26)
	long := "x.y/" + elem + "/" + elem + "/b" // 59 bytes
	for m, want := range map[api.Mod]api.Errno{
		mod("a.b", "v1.0.0"): api.OK, mod("a.b", "v0.0.0-0"): api.OK, mod("a.b/v2", "v2.1.0"): api.OK, mod("a.b", "v2.0.0+incompatible"): api.OK,
		mod("a.b/v1", "v1.0.0"): api.OK, mod(long+"b", "v1.0.0"): api.OK,
		// Without a version: directories alone.
		mod("./x", ""): api.OK, mod("../", ""): api.OK, mod("./", ""): api.OK, mod("../../x/Y", ""): api.OK,
		mod("a.b", ""): api.ErrPath, mod("", ""): api.ErrPath, mod(".", ""): api.ErrPath, mod("..", ""): api.ErrPath, mod("x", ""): api.ErrPath,
		mod("/x", ""): api.ErrPath, mod("./x/", ""): api.ErrPath, mod("./x/../y", ""): api.ErrPath, mod("./x y", ""): api.ErrPath,
		// With one: no directory, and no path that is none of a module.
		mod("./x", "v1.0.0"): api.ErrPath, mod("../", "v1.0.0"): api.ErrPath, mod("", "v1.0.0"): api.ErrPath, mod("a", "v1.0.0"): api.ErrPath,
		mod("A.b", "v1.0.0"): api.ErrPath, mod("a.b/", "v1.0.0"): api.ErrPath, mod(long+"bb", "v1.0.0"): api.ErrPath,
		mod("a.b", "x"): api.ErrVersion, mod("a.b", "v1"): api.ErrVersion, mod("a.b", "v1.0"): api.ErrVersion, mod("a.b", "1.0.0"): api.ErrVersion,
		mod("a.b", "v1.0.0+m"): api.ErrVersion, mod("a.b", " "): api.ErrVersion, mod("a.b", "v1.0.0 "): api.ErrVersion, mod("a.b", "v01.0.0"): api.ErrVersion,
		mod("a.b", "v1.0.0-"+elem+"."+elem): api.OK, mod("a.b", "v1.0.0-"+elem+"."+elem+"a"): api.ErrVersion,
		mod("a.b", "v2.0.0"): api.ErrMajor, mod("a.b/v2", "v1.0.0"): api.ErrMajor, mod("a.b/v2", "v3.0.0"): api.ErrMajor,
		mod("a.b/v2", "v2.0.0+incompatible"): api.ErrMajor, mod("a.b", "v1.0.0+incompatible"): api.ErrMajor,
		// Of several errors the first one.
		mod("a", "x"): api.ErrPath, mod("a", "v2.0.0"): api.ErrPath, mod("./x", "x"): api.ErrPath, mod("a.b", "v2.0.0+m"): api.ErrVersion, mod("a.b/v2", "v1.0.0+m"): api.ErrVersion,
	} {
		if e := Known(m); e != want {
			t.Errorf("Known(%q): %d, not %d", m, e, want)
		}
	}
}

// What a go.mod file may require is known; a replacement may be that, or a directory.
func TestKnownAsReplaced(t *testing.T) {
	for _, m := range rising() {
		e := Known(m)
		f := gomod.File{Module: "a.b", Replaces: []gomod.Replace{{Old: mod("a.b", ""), New: m}}}
		if want := gomod.Check(f); e != want {
			t.Errorf("Known(%q): %d, not %d", m, e, want)
		}
		f = gomod.File{Module: "a.b", Requires: []gomod.Require{{Mod: m}}}
		if want := gomod.Check(f); m.Version != "" && e != want {
			t.Errorf("Known(%q): %d, not %d", m, e, want)
		}
	}
}

// many is n entries, none twice, the last ones first.
func many(n int) []api.Entry {
	var l []api.Entry
	for i := range n {
		l = append(l, entry("a.b", fmt.Sprintf("v1.%d.0", n-i)))
	}
	return l
}

func TestCheckWell(t *testing.T) {
	full := strings.Repeat("x", api.MaxData)
	var big []string
	for i := range api.MaxFiles {
		big = append(big, fmt.Sprintf("f%02d", i))
	}
	for i, l := range [][]api.Entry{
		nil, {}, {entry("a.b", "v1.0.0")}, {entry("./x", "")}, {with(entry("a.b", "v1.0.0"), full, big...)},
		{with(entry("a.b", "v1.0.0"), "no go.mod\xff at all", "a/b", "a-b")},
		// One path or one version is not yet one module.
		{entry("a.b", "v1.1.0"), entry("a.b", "v1.0.0"), entry("a.c", "v1.0.0"), entry("a.b/v2", "v2.0.0"), entry("a.b", "v2.0.0+incompatible"), entry("./a.b", ""), entry("../a.b", "")},
		{with(entry("a.b", "v1.1.0"), full, "x"), with(entry("a.b", "v1.0.0"), full, "x")},
		many(api.MaxMods),
	} {
		if f := Check(l); f != (api.Fault{}) {
			t.Errorf("%d: %v", i, f)
		}
	}
}

// bad is an entry that may not be, and its error.
type bad struct {
	x api.Entry
	f api.Fault
}

// wrong is entries that may not be, each for itself; of several errors the first one is told.
func wrong() []bad {
	over := strings.Repeat("x", api.MaxData+1)
	var crowd []string
	for i := range api.MaxFiles + 1 {
		crowd = append(crowd, fmt.Sprintf("f%02d", i))
	}
	fat := entry("z.z", "v1.0.0")
	fat.Files = []api.File{{Path: "a", Data: over}}
	z := func(e api.Errno) api.Fault { return api.Fault{E: e, Path: "z.z@v1.0.0"} }
	return []bad{
		{entry("", ""), api.Fault{E: api.ErrPath}},
		{entry("z.z", ""), api.Fault{E: api.ErrPath, Path: "z.z"}},
		{entry("./z", "v1.0.0"), api.Fault{E: api.ErrPath, Path: "./z@v1.0.0"}},
		{entry("z.z", "v1"), api.Fault{E: api.ErrVersion, Path: "z.z@v1"}},
		{entry("z.z", "v1.0.0+m"), api.Fault{E: api.ErrVersion, Path: "z.z@v1.0.0+m"}},
		{entry("z.z", "v2.0.0"), api.Fault{E: api.ErrMajor, Path: "z.z@v2.0.0"}},
		{with(entry("z.z", "v1.0.0"), over), z(api.ErrMany)},
		{with(entry("./z", ""), over), api.Fault{E: api.ErrMany, Path: "./z"}},
		// The module's word is the path, not the file's.
		{with(entry("z.z", "v1.0.0"), "", "a", "b c"), z(api.ErrPath)},
		{with(entry("z.z", "v1.0.0"), "", "a", ""), z(api.ErrPath)},
		{with(entry("z.z", "v1.0.0"), "", "b", "a"), z(api.ErrTwice)},
		{with(entry("z.z", "v1.0.0"), "", "a", "a"), z(api.ErrTwice)},
		{with(entry("z.z", "v1.0.0"), "", "a", "a/b"), z(api.ErrTwice)},
		{with(entry("z.z", "v1.0.0"), "", crowd...), z(api.ErrMany)},
		{fat, z(api.ErrMany)},
		{with(entry("z.z", "v2.0.0"), over, "b", "a"), api.Fault{E: api.ErrMajor, Path: "z.z@v2.0.0"}},
		{with(entry("z", ""), "", "b", "a"), api.Fault{E: api.ErrPath, Path: "z"}},
		{with(entry("z.z", "v1.0.0"), over, "a b"), z(api.ErrMany)},
		{with(entry("z.z", "v1.0.0"), over, "b", "a"), z(api.ErrMany)},
	}
}

func TestCheckWrong(t *testing.T) {
	a, b := entry("a.b", "v1.0.0"), entry("a.b", "v1.1.0")
	for i, x := range wrong() {
		for _, l := range [][]api.Entry{
			{x.x}, {a, x.x}, {x.x, a}, {a, x.x, b}, {a, x.x, a}, {x.x, x.x}, {a, b, x.x, a},
			append(many(api.MaxMods+1), x.x), append([]api.Entry{x.x}, many(api.MaxMods+1)...),
		} {
			if f := Check(l); f != x.f {
				t.Errorf("%d of %d entries: %v, not %v", i, len(l), f, x.f)
			}
		}
		// Of two entries the first one, whatever their errors.
		for _, y := range wrong() {
			if f := Check([]api.Entry{x.x, y.x}); f != x.f {
				t.Errorf("%d ahead of %v: %v, not %v", i, y.f, f, x.f)
			}
		}
	}
}

func TestCheckTwice(t *testing.T) {
	a, b, x := entry("a.b", "v1.0.0"), entry("a.b", "v1.1.0"), entry("./x", "")
	twice := api.Fault{E: api.ErrTwice, Path: "a.b@v1.0.0"}
	for i, c := range []struct {
		l []api.Entry
		f api.Fault
	}{
		{[]api.Entry{a, a}, twice},
		{[]api.Entry{a, b, x, a}, twice},
		{[]api.Entry{b, a, b, a}, api.Fault{E: api.ErrTwice, Path: "a.b@v1.1.0"}},
		{[]api.Entry{x, a, x}, api.Fault{E: api.ErrTwice, Path: "./x"}},
		// The same module with other files is the same module.
		{[]api.Entry{with(a, "module a.b", "a"), a}, twice},
		{[]api.Entry{a, with(a, "module a.b", "a")}, twice},
		// Its own errors stand ahead.
		{[]api.Entry{a, with(a, strings.Repeat("x", api.MaxData+1))}, api.Fault{E: api.ErrMany, Path: "a.b@v1.0.0"}},
		{[]api.Entry{a, with(a, "", "a b")}, api.Fault{E: api.ErrPath, Path: "a.b@v1.0.0"}},
		{[]api.Entry{a, a, entry("z", "")}, twice},
	} {
		if f := Check(c.l); f != c.f {
			t.Errorf("%d: %v, not %v", i, f, c.f)
		}
	}
}

// That they are too many is told last.
func TestCheckMany(t *testing.T) {
	for n, want := range map[int]api.Errno{39: api.OK, 40: api.OK, 41: api.ErrMany, 60: api.ErrMany} {
		if f := Check(many(n)); f != (api.Fault{E: want}) {
			t.Errorf("%d: %v", n, f)
		}
	}
	l := many(api.MaxMods + 5)
	if f := Check(append(l, l[3])); f != (api.Fault{E: api.ErrTwice, Path: At(l[3].Mod)}) {
		t.Error(f)
	}
	if f := Check(slices.Concat(many(api.MaxMods), many(1))); f != (api.Fault{E: api.ErrTwice, Path: "a.b@v1.1.0"}) {
		t.Error(f)
	}
}

// model is Check in the order of its words, each entry held against all ahead.
func model(l []api.Entry) api.Fault {
	for i, x := range l {
		es := []api.Errno{Known(x.Mod), api.OK, tree.Check(x.Files).E, api.OK}
		if len(x.GoMod) > 4000 {
			es[1] = api.ErrMany
		}
		for _, y := range l[:i] {
			if y.Mod.Path == x.Mod.Path && y.Mod.Version == x.Mod.Version {
				es[3] = api.ErrTwice
			}
		}
		for _, e := range es {
			if e != api.OK {
				return api.Fault{E: e, Path: strings.TrimSuffix(x.Mod.Path+"@"+x.Mod.Version, "@")}
			}
		}
	}
	if len(l) > 40 {
		return api.Fault{E: api.ErrMany}
	}
	return api.Fault{}
}

func TestCheckAll(t *testing.T) {
	things := []api.Entry{
		entry("a.b", "v1.0.0"), with(entry("a.b", "v1.1.0"), "", "a", "b"), entry("./x", ""), entry("a.b", "v2.0.0+incompatible"),
		with(entry("a.b", "v1.0.0"), "x", "a"), with(entry("./x", ""), strings.Repeat("x", api.MaxData+1)), with(entry("a.b", "v1.1.0"), "", "b", "a"), entry("a.b", "v2.0.0"),
	}
	n := len(things)
	for i := range n * n * n * n {
		l := []api.Entry{things[i%n], things[i/n%n], things[i/n/n%n], things[i/n/n/n]}
		for k := range len(l) + 1 {
			if f, want := Check(l[:k]), model(l[:k]); f != want {
				t.Fatalf("%.300v: %v, not %v", l[:k], f, want)
			}
		}
	}
}

// full is a cache in order, with files and go.mod files.
func full() []api.Entry {
	return []api.Entry{
		with(entry("./x", ""), "module a.b", "x.go"), with(entry("../", ""), "module c.d", "LICENSE"),
		with(entry("a.b", "v1.2.0-rc"), "module a.b"), with(entry("a.b", "v1.2.0"), "module a.b", "a.go", "b/c.go"), with(entry("a.b", "v1.10.0"), "", "a.go"),
		entry("a.b/c", "v0.1.0"),
	}
}

func TestSort(t *testing.T) {
	var want []api.Entry
	for i, m := range rising() {
		want = append(want, with(api.Entry{Mod: m}, fmt.Sprint(i), fmt.Sprint("f", i)))
	}
	n := len(want)
	for step := 1; step < n; step++ {
		// n is a prime number, so each step goes through all of them.
		var l []api.Entry
		for i := range n {
			l = append(l, want[i*step%n])
		}
		if s := Sort(l); !same(s, want) {
			t.Fatalf("%v: %v", l, s)
		}
	}
	if s := Sort(nil); len(s) != 0 {
		t.Error(s)
	}
	if s := Sort(want); !same(s, want) {
		t.Error("what is sorted does not stay")
	}
}

// Those of one module stay in their order, in long lists too: a sort that
// keeps no order may yet keep that of short ones.
func TestSortAlike(t *testing.T) {
	mods := []api.Mod{mod("c.d", "v1.0.0"), mod("a.b", "v1.0.0+b"), mod("a.b", "v1.0.0+a")}
	var l, want []api.Entry
	for i := range 90 {
		l = append(l, with(api.Entry{Mod: mods[i%3]}, fmt.Sprint(i), fmt.Sprint("f", i)))
	}
	for _, from := range []int{2, 1, 0} {
		for i := from; i < 90; i += 3 {
			want = append(want, l[i])
		}
	}
	if s := Sort(l); !same(s, want) {
		t.Error(s)
	}
}

func TestFind(t *testing.T) {
	l := full()
	for i, want := range l {
		x, is := Find(l, want.Mod)
		if !is || !same([]api.Entry{x}, l[i:i+1]) {
			t.Errorf("%v: %v, %v", want.Mod, x, is)
		}
	}
	for _, m := range []api.Mod{
		mod("", ""), mod("a.b", ""), mod("a.b", "v1.3.0"), mod("a.b", "v1.2.0+incompatible"), mod("a.b", "v1.2.0+m"), mod("a.b", "v1.2"), mod("./x", "v1.2.0"),
		mod("x", ""), mod("./x/", ""), mod("..", ""), mod("a.b/c", "v1.2.0"), mod("A.B", "v1.2.0"), mod("z.z", "v0.1.0"),
	} {
		for _, l := range [][]api.Entry{l, nil} {
			if x, is := Find(l, m); is || !reflect.DeepEqual(x, api.Entry{}) {
				t.Errorf("%v: %v, %v", m, x, is)
			}
		}
	}
	// What may not be is found all the same, the first one of several.
	l = []api.Entry{entry("", "x"), with(entry("", ""), "1", "b", "a"), with(entry("", ""), "2"), with(entry("", "x"), "3")}
	if x, is := Find(l, mod("", "")); !is || !same([]api.Entry{x}, l[1:2]) {
		t.Error(x, is)
	}
	if x, is := Find(l, mod("", "x")); !is || !same([]api.Entry{x}, l[:1]) {
		t.Error(x, is)
	}
}

func TestVersions(t *testing.T) {
	l := full()
	slices.Reverse(l)
	for path, want := range map[string][]string{
		"a.b": {"v1.2.0-rc", "v1.2.0", "v1.10.0"}, "a.b/c": {"v0.1.0"}, "./x": {""}, "../": {""},
		"": nil, "a": nil, "..": nil, "x": nil, "a.b/": nil, "A.B": nil, "a.b@v1.2.0": nil, "z.z": nil,
	} {
		if v := Versions(l, path); !slices.Equal(v, want) {
			t.Errorf("%q: %q, not %q", path, v, want)
		}
	}
	if v := Versions(nil, ""); len(v) != 0 {
		t.Error(v)
	}
}

// Each text once, those too that are alike as versions.
func TestVersionsOnce(t *testing.T) {
	want := []string{"", "v1", "x", "v1.0.0-a", "v1.0.0", "v1.0.0+a", "v1.0.0+incompatible"}
	for _, texts := range orders(want) {
		var l []api.Entry
		for _, v := range append(texts, texts[:3]...) {
			l = append(l, entry("a.b", v), entry("c.d", "v9.0.0"))
		}
		if v := Versions(l, "a.b"); !slices.Equal(v, want) {
			t.Fatalf("%q: %q", texts, v)
		}
	}
}

// In whatever order a cache stands, all that is told of it is the same.
func TestFollows(t *testing.T) {
	want := full()
	asked := append(rising(), mod("../", ""), mod("./x", ""), mod("a.b", "v1.2.0-rc"), mod("a.b/c", "v0.1.0"))
	for _, l := range orders(want) {
		if f := Check(l); f != (api.Fault{}) {
			t.Fatal(f)
		}
		if s := Sort(l); !same(s, want) {
			t.Fatalf("%v: %v", l, s)
		}
		for _, m := range asked {
			x, is := Find(l, m)
			y, was := Find(want, m)
			if is != was || !same([]api.Entry{x}, []api.Entry{y}) {
				t.Fatalf("%v: %v, %v", m, x, is)
			}
			if v := Versions(l, m.Path); !slices.Equal(v, Versions(want, m.Path)) {
				t.Fatalf("%v: %v", m, v)
			}
		}
	}
}

// roomy is entries with room behind their lists, in which something stands.
func roomy() []api.Entry {
	l := append(full(), entry("z.z", "v1.0.0"))
	for i := range l {
		l[i].Files = append(l[i].Files, api.File{Path: "behind", Data: "x"})
		l[i].Files = l[i].Files[:len(l[i].Files)-1]
	}
	slices.Reverse(l)
	return l
}

// held is all that the lists hold, what stands behind their lengths too.
func held(l []api.Entry) []api.Entry {
	all := slices.Clone(l[:cap(l)])
	for i, x := range all {
		all[i].Files = slices.Clone(x.Files[:cap(x.Files)])
	}
	return all
}

// scratch writes over all that the lists have, their spare room too.
func scratch(l []api.Entry) {
	l = l[:cap(l)]
	for i := range l {
		files := l[i].Files[:cap(l[i].Files)]
		for k := range files {
			files[k] = api.File{Path: "other", Data: "other"}
		}
		l[i] = api.Entry{Mod: mod("other", "other"), GoMod: "other"}
	}
}

// What is handed in stays, and no answer has anything of it.
func TestApart(t *testing.T) {
	for name, call := range map[string]func([]api.Entry) []api.Entry{
		"Sort": Sort,
		"Sort twice": func(l []api.Entry) []api.Entry {
			return Sort(Sort(l))
		},
		"Find": func(l []api.Entry) []api.Entry {
			x, _ := Find(l, mod("a.b", "v1.2.0"))
			return []api.Entry{x}
		},
		"Find, no file": func(l []api.Entry) []api.Entry {
			x, _ := Find(l, mod("a.b", "v1.2.0-rc"))
			return []api.Entry{x}
		},
		"Check": func(l []api.Entry) []api.Entry {
			Check(l)
			return nil
		},
		"Versions": func(l []api.Entry) []api.Entry {
			clear(Versions(l, "a.b"))
			return nil
		},
	} {
		for _, n := range []int{0, 4, 7} {
			l := roomy()
			before := held(l)
			answer := call(l[:n])
			if !reflect.DeepEqual(held(l), before) {
				t.Errorf("%s of %d: what was handed in is changed", name, n)
			}
			was := held(answer)
			scratch(l)
			if !reflect.DeepEqual(held(answer), was) {
				t.Errorf("%s of %d: the answer has lists of what was handed in", name, n)
			}
			l = roomy()
			scratch(call(l[:n]))
			if !reflect.DeepEqual(held(l), before) {
				t.Errorf("%s of %d: what was handed in has lists of the answer", name, n)
			}
		}
	}
}

// No two lists of one answer are one, though those of the entries were.
func TestSortApart(t *testing.T) {
	files := make([]api.File, 2, 4)
	one, two := entry("a.b", "v1.0.0"), entry("a.b", "v1.1.0")
	one.Files, two.Files = files, files[:1]
	s := Sort([]api.Entry{one, two})
	was := held(s[1:])
	scratch(s[:1:1])
	if !reflect.DeepEqual(held(s[1:]), was) {
		t.Error("two lists of one answer share memory")
	}
}
