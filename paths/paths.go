// Package paths is layer 1: paths of files, modules and imports. See shared/doc/01-paths.md.
package paths

import (
	"iter"
	"slices"
	"strings"

	"graftbed/api"
)

// Signs that a path may not have, though they are visible ASCII.
const barred = "\"*:<>?\\|`"

// Valid tells whether s may be the path of a file.
func Valid(s string) bool {
	if len(s) < 1 || len(s) > api.MaxPath {
		return false
	}
	return every(s, validElem)
}

// Clean is s without the elements that lead nowhere.
func Clean(s string) string {
	rooted := strings.HasPrefix(s, "/")
	var left []string
	for e := range elements(s) {
		left = step(left, e, rooted)
	}
	c := strings.Join(left, "/")
	if rooted {
		c = "/" + c
	}
	if c == "" {
		return "."
	}
	return c
}

// Join is b behind a. Of two that name no directory b is told: only so is
// what Within tells of the empty path and of "." joined to what it was.
func Join(a, b string) string {
	switch {
	case here(a):
		return b
	case here(b):
		return a
	}
	return a + "/" + b
}

// Split is what stands ahead of the last slash and behind it.
func Split(s string) (string, string) {
	at := strings.LastIndexByte(s, '/')
	if at < 0 {
		return "", s
	}
	return s[:at], s[at+1:]
}

// Elems is the elements of s.
func Elems(s string) []string {
	return slices.Collect(elements(s))
}

// Within is the path of s in the directory dir, if it is there.
func Within(s, dir string) (string, bool) {
	if here(dir) {
		return s, true
	}
	if s == dir {
		return "", true
	}
	rest, ok := strings.CutPrefix(s, dir+"/")
	if !ok {
		return "", false
	}
	return rest, true
}

// Module is ErrPath, unless s may be the path of a module.
func Module(s string) api.Errno {
	first, _, _ := strings.Cut(s, "/")
	if !strings.Contains(first, ".") || strings.HasPrefix(first, "-") {
		return api.ErrPath
	}
	return check(s, moduleElem)
}

// Import is ErrPath, unless s may be imported.
func Import(s string) api.Errno {
	return check(s, importElem)
}

// Compare orders by elements, not by bytes: a directory's own stand together,
// though some signs are less than a slash.
func Compare(a, b string) int {
	return slices.Compare(Elems(a), Elems(b))
}

// elements tells the elements of s, from the first on.
func elements(s string) iter.Seq[string] {
	return func(yield func(string) bool) {
		if s == "" {
			return
		}
		rest, more := s, true
		for more {
			var e string
			e, rest, more = strings.Cut(rest, "/")
			if !yield(e) {
				return
			}
		}
	}
}

// step is what is left of a path when the element e has come behind left.
func step(left []string, e string, rooted bool) []string {
	last := len(left) - 1
	switch {
	case e == "" || e == ".":
		return left
	case e != "..":
		return append(left, e)
	case last >= 0 && left[last] != "..":
		return left[:last]
	case rooted: // nothing is above the root
		return left
	}
	return append(left, e)
}

// here tells whether s names the directory that one is in.
func here(s string) bool {
	return s == "" || s == "."
}

func check(s string, fits func(string) bool) api.Errno {
	if !Valid(s) || !every(s, fits) {
		return api.ErrPath
	}
	return api.OK
}

func every(s string, fits func(string) bool) bool {
	for e := range elements(s) {
		if !fits(e) {
			return false
		}
	}
	return true
}

func validElem(e string) bool {
	if len(e) < 1 || len(e) > api.MaxElem || e == "." || e == ".." {
		return false
	}
	return all(e, validByte)
}

func moduleElem(e string) bool {
	return !dotAtEdge(e) && all(e, moduleByte)
}

func importElem(e string) bool {
	return !dotAtEdge(e) && !strings.HasPrefix(e, "-") && all(e, importByte)
}

func dotAtEdge(e string) bool {
	return strings.HasPrefix(e, ".") || strings.HasSuffix(e, ".")
}

func all(e string, fits func(byte) bool) bool {
	for i := range len(e) {
		if !fits(e[i]) {
			return false
		}
	}
	return true
}

func validByte(c byte) bool {
	return c >= 0x21 && c <= 0x7E && strings.IndexByte(barred, c) < 0
}

func moduleByte(c byte) bool {
	return c >= 'a' && c <= 'z' || c >= '0' && c <= '9' || strings.IndexByte("-._~", c) >= 0
}

func importByte(c byte) bool {
	return moduleByte(c) || c >= 'A' && c <= 'Z' || c == '+'
}
