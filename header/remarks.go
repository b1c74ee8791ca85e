package header

import (
	"strings"

	"graftbed/api"
	"graftbed/scan"
)

// What the remarks begin with that say something.
const (
	slashes   = "//"
	buildMark = "//go:build"
	embedMark = "//go:embed"
	plusMark  = "+build"
)

// Signs that may stand around what a remark says, and in a line that is empty.
const (
	blanks     = " \t"
	lineBlanks = blanks + "\r"
)

const lineFeed = "\n"

// What a source may begin with, though it says nothing.
const byteOrderMark = "\uFEFF"

// linesOf is the lines of s, from line 1 on.
func linesOf(s string) []string {
	return strings.Split(strings.TrimPrefix(s, byteOrderMark), lineFeed)
}

// leading is those of the comments whose lines begin as they do. Only the
// line is asked: a comment that ends there may lend its signs to the next one.
func leading(comments []scan.Token, lines []string) []scan.Token {
	var told []scan.Token
	for _, c := range comments {
		line := strings.TrimLeft(lines[c.Line-1], lineBlanks)
		if strings.HasPrefix(line, c.Text[:len(slashes)]) {
			told = append(told, c)
		}
	}
	return told
}

// buildOf is what the build line among the remarks says.
func buildOf(remarks []scan.Token) (string, api.Fault) {
	build, met := "", false
	for _, c := range remarks {
		says, ok := behind(c.Text, buildMark)
		if !ok {
			continue
		}
		if met {
			return "", api.Fault{E: api.ErrAgain, Line: c.Line}
		}
		build, met = strings.Trim(says, blanks), true
	}
	return build, api.Fault{}
}

// plusOf is what the elder build lines among the remarks say, of those ahead
// of the line empty.
func plusOf(remarks []scan.Token, empty int) []string {
	var told []string
	for _, c := range remarks {
		if says, ok := plus(c.Text); ok && c.Line < empty {
			told = append(told, says)
		}
	}
	return told
}

// plus is what the comment says, if it is an elder build line.
func plus(comment string) (string, bool) {
	rest, ok := strings.CutPrefix(comment, slashes)
	if !ok {
		return "", false
	}
	rest = strings.Trim(rest, blanks)
	if rest == plusMark {
		return "", true
	}
	says, ok := behind(rest, plusMark)
	return strings.Trim(says, blanks), ok
}

// lastEmpty is the last of the lines that is empty; 0, if there is none.
func lastEmpty(lines []string) int {
	last := 0
	for i, line := range lines {
		if strings.Trim(line, lineBlanks) == "" {
			last = i + 1
		}
	}
	return last
}

// embedsOf is what the lines behind the line last ask to be embedded.
func embedsOf(lines []string, last int) []Embed {
	var told []Embed
	for i, line := range lines[last:] {
		if says, ok := behind(line, embedMark); ok {
			told = append(told, Embed{Text: strings.Trim(says, lineBlanks), Line: last + i + 1})
		}
	}
	return told
}

// behind is what stands in s behind the mark and a blank, if it begins so.
func behind(s, mark string) (string, bool) {
	rest, ok := strings.CutPrefix(s, mark)
	if !ok || strings.IndexAny(rest, blanks) != 0 {
		return "", false
	}
	return rest[1:], true
}
