package tree

import (
	"fmt"
	"slices"
	"strings"
	"testing"

	"graftbed/api"
	"graftbed/paths"
)

// files is paths and bytes, by turns, as a list with spare room.
func files(l ...string) []api.File {
	t := make([]api.File, 0, len(l)+3)
	for i := 0; i+1 < len(l); i += 2 {
		t = append(t, api.File{Path: l[i], Data: l[i+1]})
	}
	return t
}

// many is a tree of n files.
func many(n int) []api.File {
	var t []api.File
	for i := range n {
		t = append(t, api.File{Path: fmt.Sprintf("f%03d", i), Data: "x"})
	}
	return t
}

// some is paths that meet each other in all ways: the signs of some are less
// than a slash.
func some() []string {
	return []string{"a", "a/b", "a/b/c", "a/b/d", "a/c", "a-b", "a.b/c", "ab", "b", "b/a"}
}

// trees is all trees of some paths, with other bytes in each second one.
func trees() [][]api.File {
	l := some()
	all := [][]api.File{}
	for set := range 1 << len(l) {
		var t []api.File
		for i, p := range l {
			if set>>i&1 == 1 {
				t = append(t, api.File{Path: p, Data: strings.Repeat("x", (set+i)%2)})
			}
		}
		t = Sort(t)
		if Check(t) == (api.Fault{}) {
			all = append(all, t)
		}
	}
	return all
}

// few is every nth tree.
func few(n int) [][]api.File {
	var l [][]api.File
	for i, t := range trees() {
		if i%n == 0 {
			l = append(l, t)
		}
	}
	return l
}

// isTree says what a tree is without the order that Check leans on: no path
// twice, none a directory of another one.
func isTree(t []api.File) bool {
	for i, f := range t {
		for j, g := range t {
			if i != j && (f.Path == g.Path || strings.HasPrefix(f.Path, g.Path+"/")) {
				return false
			}
			if i < j && paths.Compare(f.Path, g.Path) >= 0 {
				return false
			}
		}
	}
	return true
}

// held tells what a list and its spare room hold.
func held(t []api.File) []api.File {
	return slices.Clone(t[:cap(t)])
}

// apart fails if the answer and the argument share memory, spare room too.
func apart(t *testing.T, answer, arg []api.File) {
	t.Helper()
	before := held(arg)
	answer = answer[:cap(answer)]
	for i := range answer {
		answer[i] = api.File{Path: "other", Data: "other"}
	}
	if !slices.Equal(held(arg), before) {
		t.Error("an answer shares memory with an argument")
	}
}

func TestCheck(t *testing.T) {
	full := strings.Repeat("x", api.MaxData)
	for _, x := range []struct {
		l []api.File
		f api.Fault
	}{
		{nil, api.Fault{}},
		{files("a", ""), api.Fault{}},
		{files("a", full, "b", full), api.Fault{}},
		{files("a/b", "", "a/c", "", "a-b", "", "ab", ""), api.Fault{}},
		{files("", ""), api.Fault{E: api.ErrPath, Path: ""}},
		{files("a", "", "b/", ""), api.Fault{E: api.ErrPath, Path: "b/"}},
		{files("a", "", "/b", ""), api.Fault{E: api.ErrPath, Path: "/b"}},
		{files("a/../b", ""), api.Fault{E: api.ErrPath, Path: "a/../b"}},
		{files("a\x00", ""), api.Fault{E: api.ErrPath, Path: "a\x00"}},
		{files("a", full+"x"), api.Fault{E: api.ErrMany, Path: "a"}},
		{files("a", "", "b", full+"x", "c d", ""), api.Fault{E: api.ErrMany, Path: "b"}},
		{files("a", "", "a", ""), api.Fault{E: api.ErrTwice, Path: "a"}},
		{files("b", "", "a", ""), api.Fault{E: api.ErrTwice, Path: "a"}},
		{files("a", "", "a/b", ""), api.Fault{E: api.ErrTwice, Path: "a/b"}},
		{files("a", "", "a/b/c/d", ""), api.Fault{E: api.ErrTwice, Path: "a/b/c/d"}},
		{files("a/b", "", "a", ""), api.Fault{E: api.ErrTwice, Path: "a"}},
		{files("a-b", "", "a/b", ""), api.Fault{E: api.ErrTwice, Path: "a/b"}}, // not by bytes
		{files("a", "", "a-b", "", "a/b", ""), api.Fault{E: api.ErrTwice, Path: "a/b"}},
		// of one file the first error; of two the first file
		{files("b", "", "a b", full+"x"), api.Fault{E: api.ErrPath, Path: "a b"}},
		{files("b", "", "a", full+"x"), api.Fault{E: api.ErrMany, Path: "a"}},
		{files("b", "", "a", "", "c d", ""), api.Fault{E: api.ErrTwice, Path: "a"}},
		{files("a", "", "\xff", "", "a", ""), api.Fault{E: api.ErrPath, Path: "\xff"}},
		{many(60), api.Fault{}},
		{many(61), api.Fault{E: api.ErrMany}},
		{append(many(61), files("a", "")...), api.Fault{E: api.ErrTwice, Path: "a"}},
		{append(many(61), files("z z", "")...), api.Fault{E: api.ErrPath, Path: "z z"}},
		{append(many(61), files("z", full+"x")...), api.Fault{E: api.ErrMany, Path: "z"}},
	} {
		if f := Check(x.l); f != x.f {
			t.Errorf("Check(%.80q): %v, not %v", x.l, f, x.f)
		}
	}
}

func TestCheckTellsTreesFromOthers(t *testing.T) {
	l := some()
	for i := range len(l) * len(l) * len(l) * len(l) {
		u := files(l[i%10], "", l[i/10%10], "", l[i/100%10], "", l[i/1000], "")
		if f := Check(u); (f == api.Fault{}) != isTree(u) || f.E != api.OK && f.E != api.ErrTwice {
			t.Fatal(u, f)
		}
	}
}

func TestFind(t *testing.T) {
	u := files("a/b", "1", "a/c/d", "", "e", "3")
	for _, x := range []struct {
		p, data string
		met     bool
	}{
		{"a/b", "1", true}, {"a/c/d", "", true}, {"e", "3", true},
		{"a", "", false}, {"a/c", "", false}, {"e/f", "", false}, {"f", "", false}, {"0", "", false},
		{"", "", false}, {".", "", false}, {"a//b", "", false}, {"/e", "", false}, {"e/", "", false}, {"\xff", "", false},
	} {
		if d, met := Find(u, x.p); d != x.data || met != x.met {
			t.Errorf("Find %q: %q %v", x.p, d, met)
		}
	}
	if d, met := Find(nil, ""); d != "" || met {
		t.Error(d, met)
	}
}

func TestPutRefuses(t *testing.T) {
	u := files("a/b", "1", "a/c/d", "2", "e", "3")
	long := strings.Repeat("x", api.MaxData+1)
	for _, x := range []struct {
		t []api.File
		f api.File
		e api.Errno
	}{
		{u, api.File{}, api.ErrPath},
		{u, api.File{Path: "."}, api.ErrPath},
		{u, api.File{Path: "a/../e"}, api.ErrPath},
		{u, api.File{Path: "a b"}, api.ErrPath},
		{u, api.File{Path: "e/", Data: long}, api.ErrPath},
		{u, api.File{Path: "x", Data: long}, api.ErrMany},
		{u, api.File{Path: "e", Data: long}, api.ErrMany},
		{u, api.File{Path: "a", Data: long}, api.ErrMany},
		{u, api.File{Path: "a"}, api.ErrTwice},
		{u, api.File{Path: "a/c"}, api.ErrTwice},
		{u, api.File{Path: "e/f"}, api.ErrTwice},
		{u, api.File{Path: "a/b/c/d"}, api.ErrTwice},
		{many(60), api.File{Path: "a"}, api.ErrMany},
		{many(60), api.File{Path: "z"}, api.ErrMany},
		{many(60), api.File{Path: "f007/a"}, api.ErrTwice},
	} {
		if v, e := Put(x.t, x.f); e != x.e || len(v) != 0 {
			t.Errorf("Put %.20q: %v %v, not %v", x.f, v, e, x.e)
		}
	}
}

func TestPutAtTheLimits(t *testing.T) {
	if v, e := Put(many(59), api.File{Path: "a"}); e != api.OK || len(v) != 60 || v[0].Path != "a" {
		t.Error(len(v), e)
	}
	if v, e := Put(many(60), api.File{Path: "f059", Data: "new"}); e != api.OK || len(v) != 60 || v[59].Data != "new" {
		t.Error(len(v), e)
	}
	full := strings.Repeat("x", api.MaxData)
	if v, e := Put(nil, api.File{Path: "a", Data: full}); e != api.OK || !Same(v, files("a", full)) {
		t.Error(len(v), e)
	}
}

func TestPutKeepsATreeATree(t *testing.T) {
	for _, u := range trees() {
		for _, p := range append(some(), "a/b/c/d", "0", "z") {
			f := api.File{Path: p, Data: "new"}
			v, e := Put(u, f)
			if want := refused(u, p); e != want {
				t.Fatal(u, p, e)
			}
			if e != api.OK {
				continue
			}
			if d, met := Find(v, p); !met || d != "new" || !isTree(v) {
				t.Fatal(u, p, v)
			}
			if !slices.Equal(others(u, p), others(v, p)) {
				t.Fatal(u, p, v)
			}
		}
	}
}

func refused(u []api.File, p string) api.Errno {
	for _, f := range u {
		if strings.HasPrefix(p, f.Path+"/") || strings.HasPrefix(f.Path, p+"/") {
			return api.ErrTwice
		}
	}
	return api.OK
}

func others(u []api.File, p string) []api.File {
	return slices.DeleteFunc(slices.Clone(u), func(f api.File) bool { return f.Path == p })
}

func TestDrop(t *testing.T) {
	for _, u := range trees() {
		for _, p := range append(some(), "", ".", "a.b", "z") {
			_, met := Find(u, p)
			v, e := Drop(u, p)
			switch {
			case !met && (e != api.ErrNone || len(v) != 0):
				t.Fatal(u, p, v, e)
			case met && (e != api.OK || !slices.Equal(v, others(u, p))):
				t.Fatal(u, p, v, e)
			}
		}
	}
	if v, e := Drop(nil, "a"); e != api.ErrNone || len(v) != 0 {
		t.Error(v, e)
	}
}

func TestNames(t *testing.T) {
	u := files("a/b", "", "a/c/d", "", "a/c/e", "", "a/f/g/h", "", "a/i", "", "a-b", "", "a.d/x", "", "e", "")
	if f := Check(u); f != (api.Fault{}) {
		t.Fatal(f)
	}
	for _, x := range []struct{ dir, files, dirs string }{
		{"", "a-b e", "a a.d"},
		{".", "a-b e", "a a.d"},
		{"a", "b i", "c f"},
		{"a/c", "d e", ""},
		{"a/f", "", "g"},
		{"a/f/g", "h", ""},
		{"a.d", "x", ""},
		{"e", "", ""},
		{"a/b", "", ""},
		{"x", "", ""},
		{"a/", "", ""},
		{"..", "", ""},
		{"/", "", ""},
	} {
		f, d := Names(u, x.dir)
		if strings.Join(f, " ") != x.files || strings.Join(d, " ") != x.dirs {
			t.Errorf("Names in %q: %q %q", x.dir, f, d)
		}
	}
	if f, d := Names(nil, ""); len(f)+len(d) != 0 {
		t.Error(f, d)
	}
}

func TestNamesOfTheExample(t *testing.T) {
	u := files("a/b", "", "a/c/d", "", "e", "")
	if f, d := Names(u, "a"); !slices.Equal(f, []string{"b"}) || !slices.Equal(d, []string{"c"}) {
		t.Error(f, d)
	}
	if f, d := Names(u, ""); !slices.Equal(f, []string{"e"}) || !slices.Equal(d, []string{"a"}) {
		t.Error(f, d)
	}
}

func TestNamesRiseAndComeOnce(t *testing.T) {
	for _, u := range trees() {
		for _, dir := range append(some(), "", ".", "a.b") {
			f, d := Names(u, dir)
			for _, l := range [][]string{f, d} {
				if !slices.IsSorted(l) || len(slices.Compact(slices.Clone(l))) != len(l) {
					t.Fatal(u, dir, f, d)
				}
			}
			for _, n := range f {
				if _, met := Find(u, paths.Join(dir, n)); !met {
					t.Fatal(u, dir, f)
				}
			}
			n := len(f)
			for _, x := range d {
				n += len(Sub(u, paths.Join(dir, x)))
			}
			if n != len(Sub(u, dir)) {
				t.Fatal(u, dir, f, d)
			}
		}
	}
}

func TestNamesShareNothing(t *testing.T) {
	u := files("a/b", "", "a/d", "", "c", "", "e/f", "", "g", "")
	f, d := Names(u, "")
	_ = append(f[:cap(f)][:len(f)], "x", "y")
	for i := range f[:cap(f)] {
		f[:cap(f)][i] = "x"
	}
	if !slices.Equal(d, []string{"a", "e"}) {
		t.Error(d)
	}
}

func TestSub(t *testing.T) {
	u := files("a/b", "1", "a/c/d", "2", "a-b/c", "3", "e", "4")
	for _, x := range []struct {
		dir  string
		want []api.File
	}{
		{"", u}, {".", u},
		{"a", files("b", "1", "c/d", "2")},
		{"a/c", files("d", "2")},
		{"a-b", files("c", "3")},
		{"e", nil}, {"a/b", nil}, {"b", nil}, {"a/", nil}, {"/", nil}, {"..", nil},
	} {
		if v := Sub(u, x.dir); !Same(v, x.want) {
			t.Errorf("Sub of %q: %v", x.dir, v)
		}
	}
	if v := Sub(nil, ""); len(v) != 0 {
		t.Error(v)
	}
}

func TestUnder(t *testing.T) {
	u := files("a/b", "1", "e", "2")
	for _, x := range []struct {
		dir  string
		want []api.File
	}{
		{"", u}, {".", u},
		{"z", files("z/a/b", "1", "z/e", "2")},
		{"y/z", files("y/z/a/b", "1", "y/z/e", "2")},
	} {
		if v := Under(u, x.dir); !Same(v, x.want) {
			t.Errorf("Under %q: %v", x.dir, v)
		}
	}
	if v := Under(nil, "a"); len(v) != 0 {
		t.Error(v)
	}
}

func TestSubOfUnderIsTheTree(t *testing.T) {
	for _, u := range trees() {
		for _, dir := range append(some(), "", ".", "x/y/z", strings.Repeat("long/", 20)+"long") {
			if v := Sub(Under(u, dir), dir); !Same(u, v) {
				t.Fatal(u, dir, v)
			}
		}
	}
}

func TestMerge(t *testing.T) {
	u := files("a/b", "1", "a/c/d", "2", "e", "3")
	for _, x := range []struct {
		a, b, want []api.File
		f          api.Fault
	}{
		{nil, nil, nil, api.Fault{}},
		{u, nil, u, api.Fault{}},
		{nil, u, u, api.Fault{}},
		{u, u, u, api.Fault{}},
		{u, files("a/b", "1", "b", "4"), files("a/b", "1", "a/c/d", "2", "b", "4", "e", "3"), api.Fault{}},
		{u, files("a/a", "0", "z", "4"), files("a/a", "0", "a/b", "1", "a/c/d", "2", "e", "3", "z", "4"), api.Fault{}},
		{u, files("a/b", "2"), nil, api.Fault{E: api.ErrTwice, Path: "a/b"}},
		{u, files("a/b", ""), nil, api.Fault{E: api.ErrTwice, Path: "a/b"}},
		{u, files("a/c", "2"), nil, api.Fault{E: api.ErrTwice, Path: "a/c"}},
		{u, files("a/b", "1", "e/f", "3"), nil, api.Fault{E: api.ErrTwice, Path: "e/f"}},
		{u, files("a/c/d/e", "", "e", "4"), nil, api.Fault{E: api.ErrTwice, Path: "a/c/d/e"}},
		{u, files("a", "", "e", "4"), nil, api.Fault{E: api.ErrTwice, Path: "a"}},
		{many(60), many(60), many(60), api.Fault{}},
		{many(59), many(60), many(60), api.Fault{}},
		{many(60), files("z", ""), nil, api.Fault{E: api.ErrMany}},
		{files("z", ""), many(60), nil, api.Fault{E: api.ErrMany}},
		// of many and a clash behind them the clash is told
		{many(60), files("a", "", "b", "", "f059", "y"), nil, api.Fault{E: api.ErrTwice, Path: "f059"}},
		{many(60), files("a", "", "f000/a", ""), nil, api.Fault{E: api.ErrTwice, Path: "f000/a"}},
	} {
		if v, f := Merge(x.a, x.b); f != x.f || !Same(v, x.want) {
			t.Errorf("Merge(%.80q, %.80q): %.80q %v", x.a, x.b, v, f)
		}
	}
}

// byPuts is Merge by its words: each file of b put behind the other.
func byPuts(a, b []api.File) ([]api.File, api.Fault) {
	all := a
	for _, f := range b {
		v, e := Put(all, f)
		d, met := Find(a, f.Path)
		if e == api.ErrTwice || met && d != f.Data {
			return nil, api.Fault{E: api.ErrTwice, Path: f.Path}
		}
		all = v
	}
	return all, api.Fault{}
}

func TestMergeIsByPuts(t *testing.T) {
	for _, a := range few(3) {
		for _, b := range few(2) {
			v, f := Merge(a, b)
			w, g := byPuts(a, b)
			if f != g || !Same(v, w) || f == (api.Fault{}) && !isTree(v) {
				t.Fatal(a, b, v, f, g)
			}
		}
	}
}

func TestSame(t *testing.T) {
	for _, x := range []struct {
		a, b []api.File
		same bool
	}{
		{nil, nil, true},
		{nil, files(), true},
		{nil, files("", ""), false},
		{files("a", "1", "b", "2"), files("a", "1", "b", "2"), true},
		{files("a", "1", "b", "2"), files("b", "2", "a", "1"), false},
		{files("a", "1"), files("a", "2"), false},
		{files("a", "1"), files("b", "1"), false},
		{files("a", "1"), files("a", "1", "a", "1"), false},
		{files("a b", "1", "", ""), files("a b", "1", "", ""), true}, // no trees
	} {
		if Same(x.a, x.b) != x.same || Same(x.b, x.a) != x.same {
			t.Errorf("Same(%q, %q) is not %v", x.a, x.b, x.same)
		}
	}
}

func TestDiff(t *testing.T) {
	u := files("a/b", "1", "a/c/d", "2", "a-b", "", "e", "3")
	for _, x := range []struct {
		a, b []api.File
		want string
	}{
		{nil, nil, ""},
		{u, u, ""},
		{u, nil, "a/b a/c/d a-b e"},
		{u, files("a/b", "1", "a/c/e", "2", "a-b", "", "b", "4", "e", "5"), "a/c/d a/c/e b e"},
		{u, files("a/b", "1", "a/c/d", "2", "e", "3"), "a-b"}, // empty, and not there
		{u, files("a", "", "e", "3"), "a a/b a/c/d a-b"},
		{u, files("0", "", "z", ""), "0 a/b a/c/d a-b e z"},
	} {
		for range 2 {
			if d := Diff(x.a, x.b); strings.Join(d, " ") != x.want {
				t.Errorf("Diff(%q, %q): %q", x.a, x.b, d)
			}
			x.a, x.b = x.b, x.a
		}
	}
}

func TestDiffIsEmptyJustIfSame(t *testing.T) {
	for _, a := range few(3) {
		for _, b := range few(2) {
			d := Diff(a, b)
			if (len(d) == 0) != Same(a, b) || !slices.IsSortedFunc(d, paths.Compare) {
				t.Fatal(a, b, d)
			}
			for _, p := range some() {
				x, inA := Find(a, p)
				y, inB := Find(b, p)
				if slices.Contains(d, p) != (inA != inB || x != y) {
					t.Fatal(a, b, d)
				}
			}
		}
	}
}

func TestSort(t *testing.T) {
	for _, x := range []struct{ l, want []api.File }{
		{nil, nil},
		{files("b", "1", "a", "2"), files("a", "2", "b", "1")},
		{files("a-b", "1", "a/b", "2", "a", "3", "a/b", "1"), files("a", "3", "a/b", "2", "a/b", "1", "a-b", "1")},
		{files("b", "3", "a", "2", "b", "1", "a", "4", "b", "2"), files("a", "2", "a", "4", "b", "3", "b", "1", "b", "2")},
		{files("a b", "1", "/", "2", "", "3", "\xff", "4"), files("", "3", "/", "2", "a b", "1", "\xff", "4")},
	} {
		if v := Sort(x.l); !Same(v, x.want) {
			t.Errorf("Sort(%q): %q", x.l, v)
		}
	}
	var l []api.File
	for i := range 200 { // so many that an unsteady way of sorting would be seen
		l = append(l, api.File{Path: fmt.Sprint("p", i*7%5), Data: fmt.Sprintf("%03d", i)})
	}
	v := Sort(l)
	for i := range len(v) - 1 {
		if v[i].Path > v[i+1].Path || v[i].Path == v[i+1].Path && v[i].Data > v[i+1].Data {
			t.Fatal(v[i], v[i+1])
		}
	}
}

func TestAnswersAreNewMemory(t *testing.T) {
	for name, call := range map[string]func(a, b []api.File) []api.File{
		"Put new":    func(a, b []api.File) []api.File { v, _ := Put(a, api.File{Path: "z"}); return v },
		"Put ahead":  func(a, b []api.File) []api.File { v, _ := Put(a, api.File{Path: "0"}); return v },
		"Put old":    func(a, b []api.File) []api.File { v, _ := Put(a, api.File{Path: "a/c/d"}); return v },
		"Drop":       func(a, b []api.File) []api.File { v, _ := Drop(a, "a/b"); return v },
		"Drop last":  func(a, b []api.File) []api.File { v, _ := Drop(a, "e"); return v },
		"Sub":        func(a, b []api.File) []api.File { return Sub(a, "a") },
		"Sub all":    func(a, b []api.File) []api.File { return Sub(a, "") },
		"Under":      func(a, b []api.File) []api.File { return Under(a, "x") },
		"Under none": func(a, b []api.File) []api.File { return Under(a, "") },
		"Merge":      func(a, b []api.File) []api.File { v, _ := Merge(a, b); return v },
		"Merge none": func(a, b []api.File) []api.File { v, _ := Merge(a, b[:0]); return v },
		"Merge to":   func(a, b []api.File) []api.File { v, _ := Merge(a[:0], b); return v },
		"Sort":       func(a, b []api.File) []api.File { return Sort(a) },
		"Sort none":  func(a, b []api.File) []api.File { return Sort(a[:0]) },
	} {
		t.Run(name, func(t *testing.T) {
			a, b := files("a/b", "1", "a/c/d", "2", "e", "3"), files("a/b", "1", "b", "4")
			wasA, wasB := held(a), held(b)
			v := call(a, b)
			if !slices.Equal(held(a), wasA) || !slices.Equal(held(b), wasB) {
				t.Error("an argument is changed")
			}
			apart(t, v, a)
			apart(t, v, b)
		})
	}
}

// TestOthersEnd: of files that are no tree nothing is promised but an end.
func TestOthersEnd(t *testing.T) {
	l := []string{"", "/", ".", "..", "a", "a", "a/b", "b", "a b", "a//b", "\xff", "a/"}
	for i := range len(l) * len(l) * len(l) {
		u := files(l[i%12], "1", l[i/12%12], "2", l[i/144], "3")
		v := append(files(l[i/144], "4"), u...)
		for _, p := range l {
			Find(u, p)
			Put(u, api.File{Path: p})
			Drop(u, p)
			Names(u, p)
			Sub(u, p)
			Under(u, p)
		}
		Check(u)
		Merge(u, v)
		Diff(v, u)
		Same(u, v)
	}
}
