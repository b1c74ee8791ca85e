package gomod

import (
	"slices"
	"strings"

	"graftbed/api"
	"graftbed/lex"
	"graftbed/paths"
)

const arrow = "=>"

// thing is what a line says: its words behind the verb, and its comment.
type thing struct {
	words   []lex.Word
	comment string
}

// verb adds a thing to what a file says, unless it has an error.
type verb func(*File, thing) api.Errno

// verbs is how each of them is read.
func verbs() map[string]verb {
	return map[string]verb{
		"module":  readModule,
		"go":      readGo,
		"require": readRequire,
		"exclude": readExclude,
		"replace": readReplace,
		"retract": readRetract,
	}
}

// opens tells whether a block may have the verb.
func opens(name string) bool {
	switch name {
	case "require", "exclude", "replace", "retract":
		return true
	}
	return false
}

// reader is a file as far as it is read: block is the verb of the block that
// is open, or empty.
type reader struct {
	file  File
	verbs map[string]verb
	block string
}

func (r *reader) line(l lex.Line) api.Errno {
	switch {
	case l.Open:
		return r.open(l.Words)
	case l.Close:
		return r.close(l.Words)
	case r.block != "":
		return r.verbs[r.block](&r.file, thing{l.Words, l.Comment})
	}
	read, ok := r.verbs[plain(l.Words)]
	if !ok {
		return api.ErrVerb
	}
	return read(&r.file, thing{l.Words[1:], l.Comment})
}

func (r *reader) open(words []lex.Word) api.Errno {
	if r.block != "" {
		return api.ErrWords
	}
	name := plain(words)
	if !opens(name) {
		return api.ErrVerb
	}
	if len(words) > 1 {
		return api.ErrWords
	}
	r.block = name
	return api.OK
}

func (r *reader) close(words []lex.Word) api.Errno {
	if r.block == "" || len(words) > 0 {
		return api.ErrWords
	}
	r.block = ""
	return api.OK
}

// plain is the first word, if it is not quoted; else the empty text, which is
// no verb.
func plain(words []lex.Word) string {
	if len(words) == 0 || words[0].Quoted {
		return ""
	}
	return words[0].Text
}

func readModule(f *File, t thing) api.Errno {
	if len(t.words) != 1 {
		return api.ErrWords
	}
	path := t.words[0].Text
	e := first(paths.Module(path), unless(f.Module == "", api.ErrAgain))
	if e == api.OK {
		f.Module = path
	}
	return e
}

func readGo(f *File, t thing) api.Errno {
	if len(t.words) != 1 {
		return api.ErrWords
	}
	release := t.words[0].Text
	e := first(checkRelease(release), unless(f.Go == "", api.ErrAgain))
	if e == api.OK {
		f.Go = release
	}
	return e
}

func readRequire(f *File, t thing) api.Errno {
	if len(t.words) != 2 {
		return api.ErrWords
	}
	indirect := t.comment == "indirect" || strings.HasPrefix(t.comment, "indirect;")
	r := Require{Mod: modOf(t.words), Indirect: indirect}
	e := checkRequire(r, f.Requires)
	if e == api.OK {
		f.Requires = append(f.Requires, r)
	}
	return e
}

func readExclude(f *File, t thing) api.Errno {
	if len(t.words) != 2 {
		return api.ErrWords
	}
	m := modOf(t.words)
	e := checkExclude(m, f.Excludes)
	if e == api.OK {
		f.Excludes = append(f.Excludes, m)
	}
	return e
}

func readReplace(f *File, t thing) api.Errno {
	at := slices.Index(t.words, lex.Word{Text: arrow})
	if at < 0 {
		return api.ErrWords
	}
	old, by := t.words[:at], t.words[at+1:]
	if !oneOrTwo(old) || !oneOrTwo(by) {
		return api.ErrWords
	}
	r := Replace{Old: modOf(old), New: modOf(by)}
	// A version that is there and is empty is a wrong one, not none.
	e := first(
		checkSide(r.Old, len(old) == 1, paths.Module),
		checkSide(r.New, len(by) == 1, checkLocal),
		checkReplaced(r.Old, f.Replaces),
	)
	if e == api.OK {
		f.Replaces = append(f.Replaces, r)
	}
	return e
}

func readRetract(f *File, t thing) api.Errno {
	if !oneOrTwo(t.words) {
		return api.ErrWords
	}
	low, high := t.words[0].Text, t.words[0].Text
	if len(t.words) == 2 {
		var ok bool
		if low, high, ok = span(t.words[0], t.words[1]); !ok {
			return api.ErrWords
		}
	}
	r := Retract{Low: low, High: high, Why: t.comment}
	e := checkRetract(r)
	if e == api.OK {
		f.Retracts = append(f.Retracts, r)
	}
	return e
}

// span is what stands between the brackets of two words.
func span(a, b lex.Word) (string, string, bool) {
	low, opened := strings.CutPrefix(a.Text, "[")
	high, closed := strings.CutSuffix(b.Text, "]")
	return low, high, opened && closed && !a.Quoted && !b.Quoted
}

func oneOrTwo(words []lex.Word) bool {
	return len(words) == 1 || len(words) == 2
}

// modOf is the module that one or two words tell.
func modOf(words []lex.Word) api.Mod {
	m := api.Mod{Path: words[0].Text}
	if len(words) == 2 {
		m.Version = words[1].Text
	}
	return m
}
