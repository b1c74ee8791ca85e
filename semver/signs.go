package semver

import (
	"iter"
	"strconv"
	"strings"

	"graftbed/api"
)

// Signs that are wished for: pairs of a first and a last one.
const (
	digits    = "09"
	hexSigns  = "09af"
	nameSigns = "09AZaz--"
)

// within is the wish for a sign of one of the spans.
func within(spans string) func(byte) bool {
	return func(c byte) bool {
		for i := 0; i < len(spans); i += 2 {
			if spans[i] <= c && c <= spans[i+1] {
				return true
			}
		}
		return false
	}
}

// all tells whether s is signs that are wished for, one at least.
func all(s string, wished func(byte) bool) bool {
	for i := range len(s) {
		if !wished(s[i]) {
			return false
		}
	}
	return s != ""
}

// identifiers tells what stands between the dots of s; of the empty text that
// is one empty text, so that no identifier is told as a wrong one.
func identifiers(s string) iter.Seq[string] {
	return func(yield func(string) bool) {
		rest, more := s, true
		for more {
			var id string
			id, rest, more = strings.Cut(rest, ".")
			if !yield(id) {
				return
			}
		}
	}
}

func every(s string, fits func(string) bool) bool {
	for id := range identifiers(s) {
		if !fits(id) {
			return false
		}
	}
	return true
}

func identifier(id string) bool {
	return all(id, within(nameSigns))
}

func preIdentifier(id string) bool {
	return identifier(id) && !(all(id, within(digits)) && noughtAhead(id))
}

func noughtAhead(s string) bool {
	return len(s) > 1 && s[0] == '0'
}

// numbers is the three numbers behind the "v" of s.
func numbers(s string) ([3]int, bool) {
	rest, ok := strings.CutPrefix(s, "v")
	var n [3]int
	if !ok || strings.Count(rest, ".") != len(n)-1 {
		return n, false
	}
	at := 0
	for id := range identifiers(rest) {
		if n[at], ok = number(id); !ok {
			return [3]int{}, false
		}
		at++
	}
	return n, true
}

func number(s string) (int, bool) {
	if len(s) > api.MaxNum || !all(s, within(digits)) || noughtAhead(s) {
		return 0, false
	}
	n, err := strconv.Atoi(s)
	return n, err == nil
}
