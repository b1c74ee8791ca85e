package mvs

import (
	"iter"
	"slices"

	"graftbed/api"
	"graftbed/cache"
	"graftbed/gomod"
	"graftbed/rewrite"
)

// meetings is what was met on the way, and how.
type meetings map[api.Mod]meeting

// meeting tells of a module by which other one it was met first, how far from
// the main module that was, and why it can't be asked what it needs.
type meeting struct {
	by  api.Mod
	far int
	bad api.Fault
}

// walk goes through what is reached, the nearest ahead. Those that are alike
// far stand in the order of their chains: so what meets a module first is what
// stands ahead of it in its first chain.
type walk struct {
	met   meetings
	queue queue
}

// walked is what was met from f on until it is enough, or all.
func walked(f gomod.File, l []api.Entry, enough func(met meetings) bool) meetings {
	// Most often there is no more to reach than a cache may have.
	w := walk{met: meetings{}, queue: queue{make(chan api.Mod, api.MaxMods)}}
	w.meet(direct(f, l), api.Mod{}, 1)
	for !enough(w.met) {
		m, is := w.queue.take()
		if !is {
			break
		}
		needs, bad := rewrite.Needs(f, l, m)
		here := w.met[m]
		here.bad = bad
		w.met[m] = here
		w.meet(needs, m, here.far+1)
	}
	return w.met
}

// meet lets those of the list wait that were not met yet.
func (w *walk) meet(l []api.Mod, by api.Mod, far int) {
	for _, m := range ordered(slices.Values(l)) {
		if _, again := w.met[m]; again {
			continue
		}
		w.met[m] = meeting{by: by, far: far}
		w.queue.put(m)
	}
}

// queue is what is to be looked at, one behind the other.
type queue struct{ waiting chan api.Mod }

// put lets m wait behind all others.
func (q *queue) put(m api.Mod) {
	select {
	case q.waiting <- m:
	default:
		// Nobody else takes what waits: without more room this would wait forever.
		q.waiting = roomier(q.waiting)
		q.waiting <- m
	}
}

// take is what waits first, as long as there is something.
func (q *queue) take() (api.Mod, bool) {
	select {
	case m := <-q.waiting:
		return m, true
	default:
		return api.Mod{}, false
	}
}

// roomier is a channel in which the same waits, and has room for as much more.
func roomier(full chan api.Mod) chan api.Mod {
	c := make(chan api.Mod, 2*cap(full)+1)
	close(full)
	for m := range full {
		c <- m
	}
	return c
}

// ordered is the modules in the order of them, in a list of its own.
func ordered(l iter.Seq[api.Mod]) []api.Mod {
	return slices.SortedFunc(l, cache.Order)
}
