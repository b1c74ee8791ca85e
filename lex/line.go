package lex

import "strings"

// Signs that may stand between words.
const blanks = " \t\r"

// Signs that a plain word may not have, though they are visible ASCII.
const barred = "\"(),`"

// What begins a comment.
const slashes = "//"

// readLine is what the line s says; false, if it is none.
func readLine(s string) (Line, bool) {
	var l Line
	rest := strings.TrimLeft(s, blanks)
	for !wordsEnd(rest) {
		w, behind, ok := readWord(rest)
		if !ok {
			return Line{}, false
		}
		l.Words = append(l.Words, w)
		rest = strings.TrimLeft(behind, blanks)
	}
	l.Open, l.Close = strings.HasPrefix(rest, "("), strings.HasPrefix(rest, ")")
	if l.Open || l.Close {
		rest = strings.TrimLeft(rest[1:], blanks)
	}
	comment, has := strings.CutPrefix(rest, slashes)
	if !has && rest != "" {
		return Line{}, false
	}
	l.Comment = strings.Trim(comment, blanks)
	return l, true
}

// wordsEnd tells whether s begins with what stands behind a line's words.
func wordsEnd(s string) bool {
	return s == "" || s[0] == '(' || s[0] == ')' || strings.HasPrefix(s, slashes)
}

// readWord is the word with which s begins, and what stands behind it; false,
// if there is none, or if it does not end there.
func readWord(s string) (Word, string, bool) {
	text, rest, quoted, ok := cutWord(s)
	if !ok || !wordsEnd(rest) && !oneOf(blanks, rest[0]) {
		return Word{}, "", false
	}
	return Word{Text: text, Quoted: quoted}, rest, true
}

func cutWord(s string) (text, rest string, quoted, ok bool) {
	switch s[0] {
	case '"':
		text, rest, ok = cutQuoted(s[1:])
		return text, rest, true, ok
	case '`':
		text, rest, ok = strings.Cut(s[1:], "`")
		return text, rest, true, ok && allVisible(text)
	}
	n := plainLen(s)
	return s[:n], s[n:], false, n > 0
}

// cutQuoted is the text up to the quote that ends it, and what stands behind
// that; s is what stands behind the first quote.
func cutQuoted(s string) (string, string, bool) {
	var text []byte
	for i := 0; i < len(s); i++ {
		switch {
		case s[i] == '"':
			return string(text), s[i+1:], true
		case !visible(s[i]):
			return "", "", false
		case s[i] == '\\':
			i++
			if i == len(s) || s[i] != '"' && s[i] != '\\' {
				return "", "", false
			}
		}
		text = append(text, s[i])
	}
	return "", "", false
}

// plainLen is how many bytes the plain word has with which s begins. Two
// slashes begin a comment wherever they stand first, so a word ends there.
func plainLen(s string) int {
	n := 0
	for n < len(s) && plainByte(s[n]) && !strings.HasPrefix(s[n:], slashes) {
		n++
	}
	return n
}

func plainByte(c byte) bool {
	return visible(c) && c != ' ' && !oneOf(barred, c)
}

func allVisible(s string) bool {
	for i := range len(s) {
		if !visible(s[i]) {
			return false
		}
	}
	return true
}

// visible tells whether c may stand in quotes.
func visible(c byte) bool {
	return c >= 0x20 && c <= 0x7E
}

func oneOf(signs string, c byte) bool {
	return strings.IndexByte(signs, c) >= 0
}
