package paths

import (
	"slices"
	"strings"
	"testing"

	"graftbed/api"
)

// texts tells all texts of at most n of the signs.
func texts(signs string, n int) []string {
	all := []string{""}
	for from := 0; n > 0; n-- {
		to := len(all)
		for _, s := range all[from:to] {
			for i := range len(signs) {
				all = append(all, s+signs[i:i+1])
			}
		}
		from = to
	}
	return all
}

// long is a text of n bytes whose elements are short enough.
func long(n int) string {
	return strings.Repeat("ab/", n/3+1)[:n-1] + "c"
}

func TestElems(t *testing.T) {
	for _, x := range []struct {
		s    string
		want []string
	}{
		{"", nil},
		{"/", []string{"", ""}},
		{"//", []string{"", "", ""}},
		{"a", []string{"a"}},
		{"a/b", []string{"a", "b"}},
		{"a//b", []string{"a", "", "b"}},
		{"/a", []string{"", "a"}},
		{"a/", []string{"a", ""}},
		{"./..", []string{".", ".."}},
		{"\xff/\x00", []string{"\xff", "\x00"}},
	} {
		if l := Elems(x.s); !slices.Equal(l, x.want) {
			t.Errorf("Elems(%q): %q, not %q", x.s, l, x.want)
		}
	}
	for _, s := range texts("a./", 6) {
		l := Elems(s)
		if strings.Join(l, "/") != s || s != "" && len(l) != strings.Count(s, "/")+1 {
			t.Errorf("Elems(%q): %q", s, l)
		}
	}
}

func TestElemsAreNewMemory(t *testing.T) {
	a, b := Elems("a/b/c"), Elems("a/b/c")
	a[0] = "x"
	_ = append(a[:1], "y", "z", "w")
	if !slices.Equal(b, []string{"a", "b", "c"}) {
		t.Errorf("%q", b)
	}
}

func TestElementsStopAndBeginAgain(t *testing.T) {
	told := elements("a/b/c")
	for range 2 {
		var met []string
		for e := range told {
			met = append(met, e)
			if e == "b" {
				break
			}
		}
		if !slices.Equal(met, []string{"a", "b"}) {
			t.Errorf("%q", met)
		}
	}
}

func TestValid(t *testing.T) {
	elem := strings.Repeat("a", api.MaxElem)
	for _, x := range []struct {
		s    string
		want bool
	}{
		{"", false},
		{"a", true},
		{"a/b/c.go", true},
		{"a.b/_c/~d-e+f", true},
		{"/", false},
		{"/a", false},
		{"a/", false},
		{"a//b", false},
		{".", false},
		{"..", false},
		{"./a", false},
		{"a/.", false},
		{"a/./b", false},
		{"../a", false},
		{"a/..", false},
		{"...", true},
		{".a", true},
		{"a.", true},
		{"..a", true},
		{elem, true},
		{elem + "a", false},
		{"a/" + elem, true},
		{"a/" + elem + "a", false},
		{elem + "a/a", false},
		{elem + "/" + elem[1:], true},
		{elem + "/" + elem, false},
		{long(api.MaxPath), true},
		{long(api.MaxPath + 1), false},
		{"é", false},
		{"a/\xc3\xa9", false},
		{"a b", false},
		{"a\n", false},
	} {
		if Valid(x.s) != x.want {
			t.Errorf("Valid(%q) is not %v", x.s, x.want)
		}
	}
}

func TestValidBytes(t *testing.T) {
	for i := range 256 {
		c := string([]byte{byte(i)})
		want := i >= 0x21 && i <= 0x7E && !slices.Contains([]string{`"`, "*", ":", "<", ">", "?", `\`, "|", "`"}, c)
		for _, s := range []string{c + "a", "a" + c, "b/a" + c + "a/b"} {
			// A slash stands between elements: at an edge it leaves an empty one.
			is := want && (c != "/" || s == "b/a/a/b")
			if Valid(s) != is {
				t.Errorf("Valid(%q) is not %v", s, is)
			}
		}
	}
}

func TestClean(t *testing.T) {
	for s, want := range map[string]string{
		"":                  ".",
		".":                 ".",
		"..":                "..",
		"/":                 "/",
		"//":                "/",
		"/.":                "/",
		"/..":               "/",
		"/../..":            "/",
		"/../a":             "/a",
		"/a/../../b":        "/b",
		"//a":               "/a",
		"a":                 "a",
		"a/":                "a",
		"a//b":              "a/b",
		"./a":               "a",
		"a/.":               "a",
		"a//b/./../c":       "a/c",
		"a/..":              ".",
		"a/../..":           "..",
		"a/../../b":         "../b",
		"../a":              "../a",
		"../..":             "../..",
		"../../a/..":        "../..",
		"../a/../..":        "../..",
		"a/b/../..":         ".",
		"a/b/../../../c":    "../c",
		"...":               "...",
		"a/...":             "a/...",
		".../..":            ".",
		"..a/b..":           "..a/b..",
		"a b/\xff/../\x00":  "a b/\x00",
		"/a/b/c/./../../d/": "/a/d",
	} {
		if c := Clean(s); c != want {
			t.Errorf("Clean(%q): %q, not %q", s, c, want)
		}
	}
}

// Taking one pair away after another, wherever it stands, is another way to what Clean tells.
func cleanByPairs(s string) string {
	rooted := strings.HasPrefix(s, "/")
	l := slices.DeleteFunc(strings.Split(s, "/"), func(e string) bool { return e == "" || e == "." })
	for i := 0; i < len(l); {
		switch {
		case i > 0 && l[i] == ".." && l[i-1] != "..":
			l, i = slices.Delete(l, i-1, i+1), 0
		case i == 0 && l[i] == ".." && rooted:
			l = l[1:]
		default:
			i++
		}
	}
	c := strings.Join(l, "/")
	if rooted {
		return "/" + c
	}
	if c == "" {
		return "."
	}
	return c
}

func TestCleanOfAllShortTexts(t *testing.T) {
	for _, s := range append(texts("a./", 9), texts("./", 12)...) {
		c := Clean(s)
		if want := cleanByPairs(s); c != want {
			t.Fatalf("Clean(%q): %q, not %q", s, c, want)
		}
		if again := Clean(c); again != c {
			t.Fatalf("Clean(%q): %q, and of that %q", s, c, again)
		}
	}
}

func TestJoin(t *testing.T) {
	for _, x := range [][3]string{
		{"a", "b", "a/b"},
		{"a/b", "c/d", "a/b/c/d"},
		{"", "b", "b"},
		{".", "b", "b"},
		{"a", "", "a"},
		{"a", ".", "a"},
		{"", "", ""},
		{".", ".", "."},
		{"", ".", "."},
		{".", "", ""},
		{"/", "b", "//b"},
		{"a/", "b", "a//b"},
		{"a", "/b", "a//b"},
		{"a", "..", "a/.."},
		{"..", "b", "../b"},
		{"./", "b", ".//b"},
	} {
		if j := Join(x[0], x[1]); j != x[2] {
			t.Errorf("Join(%q, %q): %q, not %q", x[0], x[1], j, x[2])
		}
	}
}

func TestSplit(t *testing.T) {
	for _, x := range [][3]string{
		{"", "", ""},
		{"a", "", "a"},
		{"a/b", "a", "b"},
		{"a/b/c", "a/b", "c"},
		{"a/b/", "a/b", ""},
		{"/a", "", "a"},
		{"/", "", ""},
		{"//", "/", ""},
		{"//a", "/", "a"},
		{".", "", "."},
	} {
		if dir, name := Split(x[0]); dir != x[1] || name != x[2] {
			t.Errorf("Split(%q): %q, %q", x[0], dir, name)
		}
	}
	for _, s := range texts("ab/", 6) {
		dir, name := Split(s)
		whole := dir + "/" + name
		if !strings.Contains(s, "/") {
			whole = dir + name
		}
		if whole != s || strings.Contains(name, "/") {
			t.Errorf("Split(%q): %q, %q", s, dir, name)
		}
	}
}

func TestWithin(t *testing.T) {
	for _, x := range []struct {
		s, dir, want string
		ok           bool
	}{
		{"a/b/c", "a/b", "c", true},
		{"a/b/c", "a", "b/c", true},
		{"a/b", "a/b", "", true},
		{"a/b", "", "a/b", true},
		{"a/b", ".", "a/b", true},
		{"", "", "", true},
		{".", ".", ".", true},
		{".", "", ".", true},
		{"", ".", "", true},
		{"a/bc", "a/b", "", false},
		{"a/b-c/d", "a/b", "", false},
		{"a", "a/b", "", false},
		{"b/a/b", "a/b", "", false},
		{"", "a", "", false},
		{"./a", "./", "", false},
		{"a/", "a", "", true},
		{"a//b", "a", "/b", true},
		{"a/b", "a/", "", false},
		{"/a", "/", "", false},
		{"//a", "/", "a", true},
	} {
		if in, ok := Within(x.s, x.dir); in != x.want || ok != x.ok {
			t.Errorf("Within(%q, %q): %q, %v", x.s, x.dir, in, ok)
		}
	}
}

func TestModule(t *testing.T) {
	elem := "a." + strings.Repeat("a", api.MaxElem-2)
	for s, want := range map[string]api.Errno{
		"a.b":                       api.OK,
		"a.b/c":                     api.OK,
		"a.b/c/v2":                  api.OK,
		"a..b":                      api.OK,
		"0.1/_~-":                   api.OK,
		"_.b":                       api.OK,
		"a-.b":                      api.OK,
		"a.b/-c":                    api.OK,
		"a.b/c.d":                   api.OK,
		elem:                        api.OK,
		elem + "a":                  api.ErrPath,
		"a." + long(api.MaxPath-2):  api.OK,
		"a." + long(api.MaxPath-1):  api.ErrPath,
		"":                          api.ErrPath,
		"/":                         api.ErrPath,
		"a":                         api.ErrPath,
		"a/b.c":                     api.ErrPath,
		"-a.b":                      api.ErrPath,
		".a":                        api.ErrPath,
		"a.":                        api.ErrPath,
		".a.b":                      api.ErrPath,
		"a.b.":                      api.ErrPath,
		"a.b/.c":                    api.ErrPath,
		"a.b/c.":                    api.ErrPath,
		"a.b/...":                   api.ErrPath,
		"a.b/.":                     api.ErrPath,
		"a.b/..":                    api.ErrPath,
		"./a.b":                     api.ErrPath,
		"...":                       api.ErrPath,
		"/a.b":                      api.ErrPath,
		"a.b/":                      api.ErrPath,
		"a.b//c":                    api.ErrPath,
		"A.b":                       api.ErrPath,
		"a.b/C":                     api.ErrPath,
		"a.b+c":                     api.ErrPath,
		"a.b/\xc3\xa9":              api.ErrPath,
		strings.Repeat("a.b/", 1e4): api.ErrPath,
	} {
		if e := Module(s); e != want {
			t.Errorf("Module(%q): %d, not %d", s, e, want)
		}
	}
}

func TestImport(t *testing.T) {
	elem := strings.Repeat("a", api.MaxElem)
	for s, want := range map[string]api.Errno{
		"a":                   api.OK,
		"a/b":                 api.OK,
		"a.b/c":               api.OK,
		"A/Z+_~-/0..9":        api.OK,
		"+":                   api.OK,
		"a-/b":                api.OK,
		elem:                  api.OK,
		elem + "a":            api.ErrPath,
		long(api.MaxPath):     api.OK,
		long(api.MaxPath + 1): api.ErrPath,
		"":                    api.ErrPath,
		"/":                   api.ErrPath,
		"/a":                  api.ErrPath,
		"a/":                  api.ErrPath,
		"a//b":                api.ErrPath,
		".":                   api.ErrPath,
		"./a":                 api.ErrPath,
		"../a":                api.ErrPath,
		"a/..":                api.ErrPath,
		"...":                 api.ErrPath,
		".a":                  api.ErrPath,
		"a.":                  api.ErrPath,
		"a/.b":                api.ErrPath,
		"a/b.":                api.ErrPath,
		"a./b":                api.ErrPath,
		"-":                   api.ErrPath,
		"-a":                  api.ErrPath,
		"a/-b":                api.ErrPath,
		"a/-":                 api.ErrPath,
		"a=b":                 api.ErrPath,
		"a b":                 api.ErrPath,
		"\xc3\xa9":            api.ErrPath,
	} {
		if e := Import(s); e != want {
			t.Errorf("Import(%q): %d, not %d", s, e, want)
		}
	}
}

func TestModuleAndImportBytes(t *testing.T) {
	module := "abcdefghijklmnopqrstuvwxyz0123456789-._~/"
	imported := module + "ABCDEFGHIJKLMNOPQRSTUVWXYZ+"
	for i := range 256 {
		c := string([]byte{byte(i)})
		s := "x.y/a" + c + "a"
		if ok := Module(s) == api.OK; ok != strings.Contains(module, c) {
			t.Errorf("Module(%q): %v", s, ok)
		}
		if ok := Import(s) == api.OK; ok != strings.Contains(imported, c) {
			t.Errorf("Import(%q): %v", s, ok)
		}
	}
}

func TestCompare(t *testing.T) {
	rising := []string{
		"", "/", "/a", "\x00", "-", "-/z", ".", "..", "A", "a", "a/", "a//b", "a/b", "a/b/c",
		"a/b-c", "a/b.c", "a/ba", "a-b", "a.b", "aa", "b", "~", "\x7f", "\xc3\xa9", "\xff",
	}
	for i, a := range rising {
		for k, b := range rising {
			want := 0
			if i < k {
				want = -1
			} else if i > k {
				want = 1
			}
			if c := Compare(a, b); c != want {
				t.Errorf("Compare(%q, %q): %d, not %d", a, b, c, want)
			}
		}
	}
}

func TestCompareIsAnOrder(t *testing.T) {
	l := texts("a-/", 4)
	for _, a := range l {
		for _, b := range l {
			c := Compare(a, b)
			if c != -Compare(b, a) || (c == 0) != (a == b) || c < -1 || c > 1 {
				t.Fatalf("Compare(%q, %q): %d", a, b, c)
			}
			for _, d := range l {
				if c <= 0 && Compare(b, d) <= 0 && Compare(a, d) > 0 {
					t.Fatalf("%q, %q, %q do not rise", a, b, d)
				}
			}
		}
	}
}

func TestDirectoriesStandTogether(t *testing.T) {
	var l []string
	for _, s := range texts("ab-/", 5) {
		if Valid(s) {
			l = append(l, s)
		}
	}
	slices.SortFunc(l, Compare)
	for at, dir := range l {
		n := 0
		for i, s := range l {
			if _, in := Within(s, dir); in {
				if i != at+n {
					t.Fatalf("%q is not with its directory %q", s, dir)
				}
				n++
			}
		}
	}
}

func TestWhatIsWithinIsJoinedAgain(t *testing.T) {
	var l []string
	for _, s := range append(texts("ab./", 4), "..") {
		if s == "" || s == "." || Valid(s) {
			l = append(l, s)
		}
	}
	for _, s := range l {
		for _, dir := range l {
			in, ok := Within(s, dir)
			if ok && Join(dir, in) != s {
				t.Errorf("%q within %q is %q, joined %q", s, dir, in, Join(dir, in))
			}
		}
		for _, in := range l {
			whole := Join(s, in)
			if left, ok := Within(whole, s); in != "." && Valid(s) && (!ok || left != in) {
				t.Errorf("%q in %q is %q, within %q", in, s, whole, left)
			}
		}
	}
}

func TestCallsEndOnAnyBytes(t *testing.T) {
	for _, s := range []string{"\x00", "\xff\xfe", "/\x00/", strings.Repeat("/", 4000), strings.Repeat("../", 1500), strings.Repeat("a/", 2000), strings.Repeat("\x80", 4000)} {
		if Valid(s) || Module(s) != api.ErrPath || Import(s) != api.ErrPath {
			t.Errorf("%.20q may not be", s)
		}
		if Compare(s, s) != 0 || strings.Join(Elems(s), "/") != s || Clean(Clean(s)) != Clean(s) {
			t.Errorf("%.20q", s)
		}
		if dir, name := Split(s); dir != "" && dir+"/"+name != s {
			t.Errorf("%.20q", s)
		}
	}
}
