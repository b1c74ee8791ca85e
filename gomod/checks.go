package gomod

import (
	"slices"
	"strings"

	"graftbed/api"
	"graftbed/paths"
	"graftbed/semver"
)

// The blanks of go.mod's lines.
const blanks = " \t\r"

// first is the first error of any many checks.
func first(checks ...api.Errno) api.Errno {
	for _, e := range checks {
		if e != api.OK {
			return e
		}
	}
	return api.OK
}

// unless is the error e, unless all is well.
func unless(well bool, e api.Errno) api.Errno {
	if well {
		return api.OK
	}
	return e
}

func checkRelease(s string) api.Errno {
	return unless(Release(s), api.ErrVersion)
}

func checkLocal(s string) api.Errno {
	return unless(Local(s), api.ErrPath)
}

// checkCanonical asks for the empty text on its own, as that is what Canonical
// makes of it.
func checkCanonical(version string) api.Errno {
	return unless(version != "" && semver.Canonical(version) == version, api.ErrVersion)
}

// checkMod is the first error of a module path and a version of it.
func checkMod(m api.Mod) api.Errno {
	return first(paths.Module(m.Path), checkCanonical(m.Version), semver.Fits(m.Path, m.Version))
}

// checkGo takes a file that says nothing of Go.
func checkGo(s string) api.Errno {
	if s == "" {
		return api.OK
	}
	return checkRelease(s)
}

func checkRequire(r Require, ahead []Require) api.Errno {
	again := slices.ContainsFunc(ahead, func(a Require) bool { return a.Mod.Path == r.Mod.Path })
	return first(checkMod(r.Mod), unless(!again, api.ErrAgain))
}

func checkExclude(m api.Mod, ahead []api.Mod) api.Errno {
	return first(checkMod(m), unless(!slices.Contains(ahead, m), api.ErrAgain))
}

func checkReplace(r Replace, ahead []Replace) api.Errno {
	return first(
		checkSide(r.Old, r.Old.Version == "", paths.Module),
		checkSide(r.New, r.New.Version == "", checkLocal),
		checkReplaced(r.Old, ahead),
	)
}

// checkSide is the first error of what stands on one side of an arrow; alone
// is how its path is looked at if it has no version.
func checkSide(m api.Mod, bare bool, alone func(string) api.Errno) api.Errno {
	if bare {
		return alone(m.Path)
	}
	return checkMod(m)
}

// checkReplaced is ErrAgain, if the module was replaced already.
func checkReplaced(old api.Mod, ahead []Replace) api.Errno {
	again := slices.ContainsFunc(ahead, func(a Replace) bool { return a.Old == old })
	return unless(!again, api.ErrAgain)
}

func checkRetract(r Retract) api.Errno {
	rising := semver.Compare(r.Low, r.High) <= 0
	return first(checkCanonical(r.Low), checkCanonical(r.High), unless(rising, api.ErrVersion))
}

// checkWhy is ErrWords of a text that no comment could be.
func checkWhy(why string) api.Errno {
	may := !strings.Contains(why, "\n") && strings.Trim(why, blanks) == why
	return unless(may, api.ErrWords)
}
