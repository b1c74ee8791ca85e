package scan

import (
	"strconv"
	"strings"
	"unicode/utf8"
)

// Signs that may stand behind a backslash, and in their order the bytes that
// they mean.
const (
	shortSigns = "abfnrtv\\\""
	shortBytes = "\a\b\f\n\r\t\v\\\""
)

const maxByte = 0xFF

// Unquote is what s says, which stands between quotes; false, if it can't
// stand there.
func Unquote(s string) (string, bool) {
	var said []byte
	for s != "" {
		c, rest := s[0], s[1:]
		switch c {
		case '\n', '"':
			return "", false
		case '\\':
			meant, size, ok := escaped(rest)
			if !ok {
				return "", false
			}
			said = append(said, meant...)
			rest = rest[size:]
		default:
			said = append(said, c)
		}
		s = rest
	}
	return string(said), true
}

// escaped is the bytes that are meant by what s, which stands behind a
// backslash, begins with, and how many bytes of s that takes.
func escaped(s string) (string, int, bool) {
	if s == "" {
		return "", 0, false
	}
	if at := strings.IndexByte(shortSigns, s[0]); at >= 0 {
		return shortBytes[at : at+1], 1, true
	}
	switch s[0] {
	case 'x':
		meant, ok := numberedByte(s[1:], 2, 16)
		return meant, 3, ok
	case 'u':
		meant, ok := numberedRune(s[1:], 4)
		return meant, 5, ok
	case 'U':
		meant, ok := numberedRune(s[1:], 8)
		return meant, 9, ok
	}
	meant, ok := numberedByte(s, 3, 8)
	return meant, 3, ok
}

func numberedByte(s string, digits, base int) (string, bool) {
	n, ok := number(s, digits, base)
	return string([]byte{byte(n)}), ok && n <= maxByte
}

func numberedRune(s string, digits int) (string, bool) {
	n, ok := number(s, digits, 16)
	ok = ok && n <= utf8.MaxRune && utf8.ValidRune(rune(n))
	return string(rune(n)), ok
}

// number is that of the digits with which s begins; false, if s has other signs.
func number(s string, digits, base int) (uint64, bool) {
	if len(s) < digits {
		return 0, false
	}
	n, err := strconv.ParseUint(s[:digits], base, 64)
	return n, err == nil
}
