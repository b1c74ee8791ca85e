package show

import (
	"strings"

	"graftbed/api"
	"graftbed/lex"
)

// block is how the things of a verb are written, behind an empty line; line is
// how each of them is, without the verb.
func block[T any](verb string, things []T, line func(T) string) string {
	switch len(things) {
	case 0:
		return ""
	case 1:
		return "\n" + verb + " " + line(things[0]) + "\n"
	}
	var s strings.Builder
	s.WriteString("\n" + verb + " (\n")
	for _, x := range things {
		s.WriteString("\t" + line(x) + "\n")
	}
	s.WriteString(")\n")
	return s.String()
}

// module is the words of m: who has no version is replaced at each one, or is
// a directory.
func module(m api.Mod) string {
	if m.Version == "" {
		return lex.Write(m.Path)
	}
	return lex.Write(m.Path) + " " + m.Version
}

// span holds the versions against each other as texts: two that are alike
// may be written unlike, and both are to be read back.
func span(low, high string) string {
	if low == high {
		return low
	}
	return "[" + low + " " + high + "]"
}

// remarked is the line s with the remark behind it, if there is one.
func remarked(s, remark string) string {
	if remark == "" {
		return s
	}
	return s + " // " + remark
}
