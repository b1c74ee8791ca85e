package scan

import "strings"

// Signs that may stand between tokens of a line.
const blanks = " \t\r"

// Up to here a rune is ASCII.
const lastASCII = 0x7F

// piece is a token where it stands: how many bytes it takes there.
type piece struct {
	kind int
	text string
	size int
}

// first is the piece with which s begins; false, if there is none.
func first(s string) (piece, bool) {
	switch {
	case s == "":
		return piece{kind: kindEnd}, true
	case strings.HasPrefix(s, "//"):
		return lineComment(s), true
	case strings.HasPrefix(s, "/*"):
		return longComment(s)
	case s[0] == '"':
		return quotedText(s)
	case s[0] == '`':
		return rawText(s)
	}
	if n := nameLen(s); n > 0 {
		return piece{kindName, s[:n], n}, true
	}
	return piece{kindSign, s[:1], 1}, true
}

// lineComment is the comment of two slashes with which s begins.
func lineComment(s string) piece {
	all, _, _ := strings.Cut(s, lineFeed)
	return piece{kindComment, strings.TrimSuffix(all, "\r"), len(all)}
}

// longComment is the comment of a slash and a star with which s begins.
func longComment(s string) (piece, bool) {
	// The star that begins it does not end it.
	inside, _, ok := strings.Cut(s[2:], "*/")
	size := 2 + len(inside) + 2
	if !ok {
		return piece{}, false
	}
	return piece{kindComment, s[:size], size}, true
}

// rawText is the text in backquotes with which s begins.
func rawText(s string) (piece, bool) {
	inside, _, ok := strings.Cut(s[1:], "`")
	return piece{kindText, strings.ReplaceAll(inside, "\r", ""), len(inside) + 2}, ok
}

// quotedText is the text in quotes with which s begins.
func quotedText(s string) (piece, bool) {
	line, _, _ := strings.Cut(s[1:], lineFeed)
	inside, ok := cutQuoted(line)
	if !ok {
		return piece{}, false
	}
	text, ok := Unquote(inside)
	return piece{kindText, text, len(inside) + 2}, ok
}

// cutQuoted is what stands in s ahead of the quote that ends a text.
func cutQuoted(s string) (string, bool) {
	for i := 0; i < len(s); i++ {
		switch s[i] {
		case '"':
			return s[:i], true
		case '\\':
			i++
		}
	}
	return "", false
}

// nameLen is how many bytes the name has with which s begins.
func nameLen(s string) int {
	for i, r := range s {
		if !letter(r) && !(digit(r) && i > 0) {
			return i
		}
	}
	return len(s)
}

func letter(r rune) bool {
	return 'a' <= r && r <= 'z' || 'A' <= r && r <= 'Z' || r == '_' || r > lastASCII
}

func digit(r rune) bool {
	return '0' <= r && r <= '9'
}

// blankLen is how many bytes of s come ahead of a token: line feeds, too, but
// where a line's end is a token itself.
func blankLen(s string, closes bool) int {
	between := blanks
	if !closes {
		between += lineFeed
	}
	return len(s) - len(strings.TrimLeft(s, between))
}
