package semver

import (
	"math/big"
	"regexp"
	"slices"
	"strconv"
	"strings"
	"testing"

	"graftbed/api"
)

// The document's form of a version, apart from its length.
var form = regexp.MustCompile(`\Av(0|[1-9][0-9]{0,8})\.(0|[1-9][0-9]{0,8})\.(0|[1-9][0-9]{0,8})` +
	`(?:-((?:0|[1-9][0-9]*|[0-9]*[A-Za-z-][0-9A-Za-z-]*)(?:\.(?:0|[1-9][0-9]*|[0-9]*[A-Za-z-][0-9A-Za-z-]*))*))?` +
	`(?:\+([0-9A-Za-z-]+(?:\.[0-9A-Za-z-]+)*))?\z`)

// model is Parse, told by the form.
func model(s string) (Version, api.Errno) {
	m := form.FindStringSubmatch(s)
	if m == nil || len(s) > 60 {
		return Version{}, api.ErrVersion
	}
	var n [3]int
	for i := range n {
		n[i], _ = strconv.Atoi(m[i+1])
	}
	return Version{n[0], n[1], n[2], m[4], m[5]}, api.OK
}

// texts tells all texts of at most n of the signs.
func texts(signs string, n int) []string {
	all := []string{""}
	for from := 0; n > 0; n-- {
		to := len(all)
		for _, s := range all[from:to] {
			for i := range len(signs) {
				all = append(all, s+signs[i:i+1])
			}
		}
		from = to
	}
	return all
}

// held fails if Parse, Print or Canonical of s say other than the form.
func held(t *testing.T, s string) {
	t.Helper()
	want, wantE := model(s)
	v, e := Parse(s)
	if v != want || e != wantE {
		t.Fatalf("Parse(%q): %v, %d, not %v, %d", s, v, e, want, wantE)
	}
	canonical := ""
	if e == api.OK {
		if p, e := Print(v); p != s || e != api.OK {
			t.Fatalf("Print of %q: %q, %d", s, p, e)
		}
		canonical = strings.TrimSuffix(s, "+"+v.Meta)
		if v.Meta == "incompatible" {
			canonical = s
		}
	}
	if c := Canonical(s); c != canonical {
		t.Fatalf("Canonical(%q): %q, not %q", s, c, canonical)
	}
}

func TestParse(t *testing.T) {
	for _, x := range []struct {
		s    string
		want Version
	}{
		{"v0.0.0", Version{}},
		{"v1.2.3", Version{Major: 1, Minor: 2, Patch: 3}},
		{"v999999999.999999999.999999999", Version{Major: 999999999, Minor: 999999999, Patch: 999999999}},
		{"v1.2.3-a", Version{Major: 1, Minor: 2, Patch: 3, Pre: "a"}},
		{"v1.2.3+a", Version{Major: 1, Minor: 2, Patch: 3, Meta: "a"}},
		{"v1.2.3-a.0.10+b.01.00", Version{Major: 1, Minor: 2, Patch: 3, Pre: "a.0.10", Meta: "b.01.00"}},
		{"v0.0.0+a-b", Version{Meta: "a-b"}},
		{"v0.0.0--", Version{Pre: "-"}},
		{"v0.0.0-0-", Version{Pre: "0-"}},
		{"v0.0.0-01a", Version{Pre: "01a"}},
		{"v0.0.0-a-b.--", Version{Pre: "a-b.--"}},
		{"v0.0.0-AZaz09", Version{Pre: "AZaz09"}},
		{"v0.0.0-12345678901234567890", Version{Pre: "12345678901234567890"}},
		{"v0.0.0-" + strings.Repeat("a", 53), Version{Pre: strings.Repeat("a", 53)}},
		{"v0.0.0+" + strings.Repeat("0", 53), Version{Meta: strings.Repeat("0", 53)}},
	} {
		if v, e := Parse(x.s); v != x.want || e != api.OK {
			t.Errorf("Parse(%q): %v, %d", x.s, v, e)
		}
		held(t, x.s)
	}
	for _, s := range []string{
		"", "v", "V1.0.0", "1.0.0", " v1.0.0", "v 1.0.0", "vv1.0.0", "v1", "v1.0", "v1.0.", "v1..0", "v.1.0", "v1.0.0.0", "v1.0.0.",
		"v01.0.0", "v1.00.0", "v1.0.01", "v1000000000.0.0", "v0.1000000000.0", "v0.0.1000000000", "v0000000000.0.0",
		"v+1.0.0", "v-1.0.0", "v1.-1.0", "v1.0.a", "v1.a.0", "v1.0.0a", "v1_0.0.0", "v0x1.0.0", "v\u0661.0.0",
		"v1.0.0-", "v1.0.0-.", "v1.0.0-a.", "v1.0.0-.a", "v1.0.0-a..b", "v1.0.0-00", "v1.0.0-a.01", "v1.0.0-01.a", "v1.0.0-a_b", "v1.0.0-\u00e4", "v1.0.0-a\x00",
		"v1.0.0+", "v1.0.0-a+", "v1.0.0-+a", "v1.0.0+.", "v1.0.0+a.", "v1.0.0+a..b", "v1.0.0+a+b", "v1.0.0+a/b", "v1.0.0\n", "v1.0-a.0", "v1-a.0.0", "v1.0+a",
		"v0.0.0-" + strings.Repeat("a", 54), "v0.0.0+" + strings.Repeat("a", 54), strings.Repeat("v1.0.0", 500),
	} {
		if v, e := Parse(s); v != (Version{}) || e != api.ErrVersion {
			t.Errorf("Parse(%q): %v, %d", s, v, e)
		}
		held(t, s)
	}
}

func TestParseAllTexts(t *testing.T) {
	for _, s := range texts("v01.-+", 7) {
		held(t, s)
	}
	for _, ahead := range []string{"v1.0.0-", "v1.0.0+", "v1.0.0-a+"} {
		for _, s := range texts("01a.-+", 5) {
			held(t, ahead+s)
		}
	}
}

// Each byte, at each place of a version.
func TestParseAllBytes(t *testing.T) {
	const s = "v10.2.3-a1.b+c.d"
	for i := range len(s) + 1 {
		for c := range 256 {
			held(t, s[:i]+string([]byte{byte(c)})+s[i:])
			if i < len(s) {
				held(t, s[:i]+string([]byte{byte(c)})+s[i+1:])
			}
		}
	}
}

func TestPrint(t *testing.T) {
	for _, v := range []Version{
		{Major: -1}, {Minor: -1}, {Patch: -1}, {Major: 1000000000}, {Minor: 1000000000}, {Patch: 1000000000}, {Major: -1 << 31}, {Major: 1<<31 - 1},
		{Pre: "01"}, {Pre: "a.00"}, {Pre: "."}, {Pre: "a."}, {Pre: "a..b"}, {Pre: "a b"}, {Pre: "a+b"}, {Pre: "+"}, {Pre: "+b"}, {Pre: "a+"}, {Pre: "a+b", Meta: "c"},
		{Meta: "."}, {Meta: ".a"}, {Meta: "a+b"}, {Meta: "+"}, {Meta: "a\n"}, {Meta: "\xff"},
		{Pre: strings.Repeat("a", 54)}, {Meta: strings.Repeat("a", 54)}, {Pre: strings.Repeat("a", 3000)},
	} {
		if s, e := Print(v); s != "" || e != api.ErrVersion {
			t.Errorf("Print(%v): %q, %d", v, s, e)
		}
	}
	parts := texts("01a.-+", 3)
	for _, pre := range parts {
		for _, meta := range parts {
			v := Version{Major: 1, Patch: 2, Pre: pre, Meta: meta}
			s, e := Print(v)
			if e == api.OK {
				if w, e := Parse(s); w != v || e != api.OK {
					t.Fatalf("Print(%v): %q, parsed as %v", v, s, w)
				}
				continue
			}
			if w, _ := model("v1.0.2" + part("-", pre) + part("+", meta)); w == v || s != "" || e != api.ErrVersion {
				t.Fatalf("Print(%v): %q, %d", v, s, e)
			}
		}
	}
}

func part(sign, s string) string {
	if s == "" {
		return ""
	}
	return sign + s
}

func TestCanonical(t *testing.T) {
	for s, want := range map[string]string{
		"v1.2.3":                 "v1.2.3",
		"v1.2.3-a.1":             "v1.2.3-a.1",
		"v1.2.3+m":               "v1.2.3",
		"v1.2.3-a+m-n.o":         "v1.2.3-a",
		"v2.0.0+incompatible":    "v2.0.0+incompatible",
		"v0.0.0-b+incompatible":  "v0.0.0-b+incompatible",
		"v2.0.0+incompatible.1":  "v2.0.0",
		"v2.0.0+Incompatible":    "v2.0.0",
		"v2.0.0-incompatible+a":  "v2.0.0-incompatible",
		"v2.0.0+incompatible+a":  "",
		"v2.0.0+incompatible\n":  "",
		"v2.0+incompatible":      "",
		"2.0.0":                  "",
		"":                       "",
		"v1.0.0-01+incompatible": "",
	} {
		if c := Canonical(s); c != want {
			t.Errorf("Canonical(%q): %q, not %q", s, c, want)
		}
	}
}

// The order's classes, from the least on; those of one class are alike.
func classes() [][]string {
	return [][]string{
		{"", "x", "v1", "1.0.0", "v1.0.0-01", "v999999999.0.0+"},
		{"v0.0.0-0", "v0.0.0-0+z"},
		{"v0.0.0", "v0.0.0+incompatible", "v0.0.0+a.b"},
		{"v0.0.1"},
		{"v0.0.2"},
		{"v0.0.10-a"},
		{"v0.0.10"},
		{"v0.1.0-z"},
		{"v0.1.0"},
		{"v0.2.0"},
		{"v0.10.0"},
		{"v1.0.0-0"},
		{"v1.0.0-0.0"},
		{"v1.0.0-0.a"},
		{"v1.0.0-2"},
		{"v1.0.0-2.1"},
		{"v1.0.0-10"},
		{"v1.0.0-18446744073709551615"},
		{"v1.0.0-18446744073709551616", "v1.0.0-18446744073709551616+m"},
		{"v1.0.0-99999999999999999999999999999999"},
		{"v1.0.0--"},
		{"v1.0.0-0-"},
		{"v1.0.0-10a"},
		{"v1.0.0-2a"},
		{"v1.0.0-A"},
		{"v1.0.0-Z"},
		{"v1.0.0-a", "v1.0.0-a+b"},
		{"v1.0.0-a.1"},
		{"v1.0.0-a.1.0"},
		{"v1.0.0-a.2"},
		{"v1.0.0-a.-"},
		{"v1.0.0-a.b"},
		{"v1.0.0-a-"},
		{"v1.0.0-a-b"},
		{"v1.0.0-a0"},
		{"v1.0.0-aa"},
		{"v1.0.0-b"},
		{"v1.0.0", "v1.0.0+a", "v1.0.0+b"},
		{"v2.0.0", "v2.0.0+incompatible"},
		{"v10.0.0-rc"},
		{"v999999999.0.0"},
		{"v999999999.999999999.999999999"},
	}
}

func TestCompare(t *testing.T) {
	l := classes()
	for i, as := range l {
		for k, bs := range l {
			want := 0
			if i < k {
				want = -1
			} else if i > k {
				want = 1
			}
			for _, a := range as {
				for _, b := range bs {
					if c := Compare(a, b); c != want {
						t.Errorf("Compare(%q, %q): %d, not %d", a, b, c, want)
					}
					greater := a
					if want < 0 {
						greater = b
					}
					if m := Max(a, b); m != greater {
						t.Errorf("Max(%q, %q): %q, not %q", a, b, m, greater)
					}
				}
			}
		}
	}
}

func TestCompareExample(t *testing.T) {
	l := []string{"v1.0.0-alpha", "v1.0.0-alpha.1", "v1.0.0-alpha.beta", "v1.0.0-2", "v1.0.0"}
	slices.SortFunc(l, Compare)
	if !slices.Equal(l, []string{"v1.0.0-2", "v1.0.0-alpha", "v1.0.0-alpha.1", "v1.0.0-alpha.beta", "v1.0.0"}) {
		t.Error(l)
	}
}

// modelPre is the order of two Pre, told one identifier after the other.
func modelPre(a, b string) int {
	if a == "" || b == "" {
		return strings.Compare(strconv.FormatBool(a == ""), strconv.FormatBool(b == ""))
	}
	x, y := strings.Split(a, "."), strings.Split(b, ".")
	for i := range min(len(x), len(y)) {
		if x[i] == y[i] {
			continue
		}
		n, isN := new(big.Int).SetString(strings.ReplaceAll(x[i], "-", "_"), 10)
		m, isM := new(big.Int).SetString(strings.ReplaceAll(y[i], "-", "_"), 10)
		switch {
		case isN && isM:
			return n.Cmp(m)
		case isN:
			return -1
		case isM:
			return 1
		}
		return strings.Compare(x[i], y[i])
	}
	return big.NewInt(int64(len(x))).Cmp(big.NewInt(int64(len(y))))
}

// Compare is an order, and the one of the model, over all short Pre.
func TestCompareAllPre(t *testing.T) {
	var l []string
	for _, pre := range append(texts("019a.-", 3), "9.1.0", "a.1.0", "a.10.0", "10.9", "0.0.0.0") {
		s := "v1.0.0" + part("-", pre)
		if _, e := Parse(s); e == api.OK {
			l = append(l, s)
		}
	}
	for _, a := range l {
		v, _ := Parse(a)
		for _, b := range l {
			w, _ := Parse(b)
			want := modelPre(v.Pre, w.Pre)
			if c := Compare(a, b); c != want || (c == 0) != (a == b) {
				t.Fatalf("Compare(%q, %q): %d, not %d", a, b, c, want)
			}
			if c := Compare(a+"+x", b+"+incompatible"); c != want {
				t.Fatalf("Compare(%q, %q) with a Meta: %d, not %d", a, b, c, want)
			}
		}
	}
	// Each pair is ordered by its place in one list: so Compare is an order.
	slices.SortFunc(l, Compare)
	for i := range l {
		for k := range i {
			if Compare(l[k], l[i]) > 0 || Compare(l[i], l[k]) < 0 {
				t.Fatalf("%q and %q", l[k], l[i])
			}
		}
	}
}

func TestMax(t *testing.T) {
	for _, x := range [][3]string{
		{"v1.0.0", "v1.0.1", "v1.0.1"},
		{"v1.0.1", "v1.0.0", "v1.0.1"},
		{"v1.0.0+a", "v1.0.0+b", "v1.0.0+a"},
		{"v1.0.0+b", "v1.0.0+a", "v1.0.0+b"},
		{"x", "y", "x"},
		{"y", "", "y"},
		{"x", "v0.0.0-0", "v0.0.0-0"},
		{"v0.0.0-0", "zzz", "v0.0.0-0"},
	} {
		if m := Max(x[0], x[1]); m != x[2] {
			t.Errorf("Max(%q, %q): %q", x[0], x[1], m)
		}
	}
}

func TestPseudo(t *testing.T) {
	for _, x := range []struct{ s, stamp, hash string }{
		{"v0.0.0-20200102030405-abcdef012345", "20200102030405", "abcdef012345"},
		{"v0.0.0-00000000000000-000000000000", "00000000000000", "000000000000"},
		{"v9.9.9-99999999999999-999999999fff", "99999999999999", "999999999fff"},
		{"v1.2.4-0.20200102030405-abcdef012345", "20200102030405", "abcdef012345"},
		{"v1.2.4-0.0.20200102030405-abcdef012345", "20200102030405", "abcdef012345"},
		{"v1.2.3-rc.1.0.20200102030405-abcdef012345", "20200102030405", "abcdef012345"},
		{"v1.2.3-pre.0.20200102030405-abcdef012345", "20200102030405", "abcdef012345"},
		{"v1.2.3--.0.20200102030405-abcdef012345", "20200102030405", "abcdef012345"},
		{"v2.0.0-20200102030405-abcdef012345+incompatible", "20200102030405", "abcdef012345"},
		{"v2.0.1-0.20200102030405-abcdef012345+m", "20200102030405", "abcdef012345"},
	} {
		if stamp, hash, ok := Pseudo(x.s); stamp != x.stamp || hash != x.hash || !ok {
			t.Errorf("Pseudo(%q): %q, %q, %v", x.s, stamp, hash, ok)
		}
	}
	for _, s := range []string{
		"", "x", "v0.0.0", "v0.0.0-a", "v0.0.0-0", "v0.0.0-0.0", "v0.0.0-20200102030405", "v0.0.0-abcdef012345", "v0.0.0--",
		"20200102030405-abcdef012345", "0.0.0-20200102030405-abcdef012345", "v0.0-20200102030405-abcdef012345",
		"v0.0.0+20200102030405-abcdef012345", "v0.0.0-a+20200102030405-abcdef012345", "v0.0.0-a+0.20200102030405-abcdef012345",
		"v0.0.0-2020010203040-abcdef012345", "v0.0.0-202001020304050-abcdef012345", "v0.0.0-2020010203040-abcdef0123456", "v0.0.0-202001020304055-abcdef01234",
		"v0.0.0-20200102030405-abcdef01234", "v0.0.0-20200102030405-abcdef0123456",
		"v0.0.0-20200102030405-abcdeg012345", "v0.0.0-20200102030405-abcdez012345", "v0.0.0-20200102030405-ABCDEF012345", "v0.0.0-20200102030405-abcdef-12345", "v0.0.0-20200102030405--bcdef012345",
		"v0.0.0-2020010203040a-abcdef012345", "v0.0.0--0200102030405-abcdef012345", "v0.0.0-20200102030405.abcdef012345", "v0.0.0-20200102030405aabcdef012345", "v0.0.0-20200102030405--abcdef012345",
		"v1.2.3-a.20200102030405-abcdef012345", "v1.2.3-1.20200102030405-abcdef012345", "v1.2.3-10.20200102030405-abcdef012345", "v1.2.3-a0.20200102030405-abcdef012345",
		"v1.2.3--0.20200102030405-abcdef012345", "v1.2.3-020200102030405-abcdef012345", "v1.2.3-0-20200102030405-abcdef012345", "v1.2.3-0a.20200102030405-abcdef012345",
		"v1.2.3-00.20200102030405-abcdef012345", "v1.2.3-0..20200102030405-abcdef012345", "v1.2.3-0.a.20200102030405-abcdef012345",
		"v0.0.0-20200102030405-abcdef012345.0", "v0.0.0-20200102030405-abcdef012345.", "v0.0.0-20200102030405-abcdef012345 ",
		"v0.0.0-a20200102030405-abcdef012345", "v1.0.0-0.20200102030405-abcdef012345+" + strings.Repeat("m", 60),
	} {
		if stamp, hash, ok := Pseudo(s); stamp != "" || hash != "" || ok {
			t.Errorf("Pseudo(%q): %q, %q, %v", s, stamp, hash, ok)
		}
	}
}

// Whatever stands ahead of the time and the hash.
func TestPseudoAllAhead(t *testing.T) {
	const tail = "20200102030405-abcdef012345"
	for _, ahead := range texts("01a.-", 5) {
		s := "v1.0.0-" + ahead + tail
		_, e := Parse(s)
		want := e == api.OK && (ahead == "" || ahead == "0." || strings.HasSuffix(ahead, ".0."))
		if _, _, ok := Pseudo(s); ok != want {
			t.Errorf("Pseudo(%q): %v", s, ok)
		}
	}
}

func TestMajor(t *testing.T) {
	for path, want := range map[string]int{
		"a.b/v2": 2, "a.b/v3": 3, "a.b/v10": 10, "a.b/c/v21": 21, "a/v999999999": 999999999, "v3/v2": 2, "/v2": 2, "a//v2": 2, "./v2": 2, strings.Repeat("a/", 500) + "v2": 2,
		"": 0, "/": 0, "a.b": 0, "v2": 0, "v10": 0, "a.b/v": 0, "a.b/v0": 0, "a.b/v1": 0, "a.b/v02": 0, "a.b/v00": 0, "a.b/2": 0, "a.b/V2": 0, "a.b/vv2": 0, "a.b/w2": 0,
		"a/v1000000000": 0, "a/v2/b": 0, "a/v2/": 0, "a/v2 ": 0, "a/v2.0": 0, "a/v-2": 0, "a/v+2": 0, "a/v2a": 0, "a/v2/v1": 0, "a.v2": 0, "a/v2\u0662": 0, "a\\v2": 0,
	} {
		if n := Major(path); n != want {
			t.Errorf("Major(%q): %d, not %d", path, n, want)
		}
	}
}

func TestFits(t *testing.T) {
	for _, x := range []struct {
		path, version string
		want          api.Errno
	}{
		{"a.b", "v0.0.0", api.OK},
		{"a.b", "v0.1.0-a+m", api.OK},
		{"a.b", "v1.9.0", api.OK},
		{"a.b", "v2.0.0", api.ErrMajor},
		{"a.b", "v2.0.0+m", api.ErrMajor},
		{"a.b", "v3.0.0-incompatible", api.ErrMajor},
		{"a.b", "v2.0.0+incompatible", api.OK},
		{"a.b", "v10.0.0-a+incompatible", api.OK},
		{"a.b", "v1.0.0+incompatible", api.ErrMajor},
		{"a.b", "v0.0.0+incompatible", api.ErrMajor},
		{"a.b/v2", "v2.1.0", api.OK},
		{"a.b/v2", "v2.0.0-a+m", api.OK},
		{"a.b/v2", "v2.0.0+incompatible", api.ErrMajor},
		{"a.b/v2", "v0.0.0", api.ErrMajor},
		{"a.b/v2", "v1.0.0", api.ErrMajor},
		{"a.b/v2", "v3.0.0", api.ErrMajor},
		{"a.b/v2", "v3.0.0+incompatible", api.ErrMajor},
		{"a.b/v2", "v1.0.0+incompatible", api.ErrMajor},
		{"a.b/v20", "v2.0.0", api.ErrMajor},
		{"a.b/v1", "v1.0.0", api.OK},
		{"a.b/v1", "v2.0.0", api.ErrMajor},
		{"v2", "v2.0.0", api.ErrMajor},
		{"v2", "v1.0.0", api.OK},
		{"", "v1.0.0", api.OK},
		{"a.b", "", api.ErrVersion},
		{"a.b", "x", api.ErrVersion},
		{"a.b", "v2", api.ErrVersion},
		{"a.b/v2", "v2.0.0-01", api.ErrVersion},
		{"a.b/v2", "v1.0+incompatible", api.ErrVersion},
	} {
		if e := Fits(x.path, x.version); e != x.want {
			t.Errorf("Fits(%q, %q): %d, not %d", x.path, x.version, e, x.want)
		}
	}
}

// An iterator that is told that it is enough tells no more.
func TestIdentifiersEnd(t *testing.T) {
	n := 0
	for range identifiers("a.b.c") {
		if n++; n == 2 {
			break
		}
	}
	if n != 2 {
		t.Error(n)
	}
}
