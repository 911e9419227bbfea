package undo

import (
	"maps"
	"slices"

	"emendator/api"
)

// none is the number of no state.
const none = -1

// state is one of a tree's, which stand there by their numbers. It has a way on as long as one that was made from it is there: so one without is one from which none was made.
type state struct {
	from, on int
	by       []api.Delta
}

// copies are changes in memory of their own.
func copies(l []api.Delta) []api.Delta {
	var own []api.Delta
	for _, d := range l {
		own = append(own, api.Delta{At: d.At, Old: slices.Clone(d.Old), New: slices.Clone(d.New)})
	}
	return own
}

// numbers are those of all states, rising.
func (t *Tree) numbers() []int { return slices.Sorted(maps.Keys(t.states)) }

// up goes to that from which the one that is was made, down goes its way on. All from which the one that is comes have their ways on down to it, for only so one comes there, and it never goes: up lays none.
func (t *Tree) up() []api.Delta {
	was := t.states[t.now]
	t.now = was.from
	return Turn(was.by)
}

func (t *Tree) down() []api.Delta {
	t.now = t.states[t.now].on
	return copies(t.states[t.now].by)
}

// meeting is the nearest state from which both come, or which is one of both. A state has a greater number than the one from which it was made: so of two the other cannot come from the greater one, which goes up.
func (t *Tree) meeting(one, other int) int {
	for one != other {
		one, other = min(one, other), t.states[max(one, other)].from
	}
	return one
}

// lead lays the ways on from a state down to one that comes from it.
func (t *Tree) lead(top, seq int) {
	for seq != top {
		from := t.states[seq].from
		t.states[from].on = seq
		seq = from
	}
}

// goBehind goes to the n-th of those behind the one that is, in a row of all states' numbers, or to the last of them.
func (t *Tree) goBehind(all []int, n int) ([]api.Delta, api.Errno) {
	rest := all[slices.Index(all, t.now)+1:]
	switch {
	case n < 1:
		return nil, api.ErrArg
	case len(rest) == 0:
		return nil, api.ErrUndoEnd
	}
	return t.Go(rest[min(n, len(rest))-1])
}
