package undo

import (
	"container/heap"
	"sort"
)

// least is a heap of states' numbers, the least one on top.
type least struct{ sort.IntSlice }

func (h *least) Push(x any) { h.IntSlice = append(h.IntSlice, x.(int)) }

func (h *least) Pop() any {
	end := h.Len() - 1
	x := h.IntSlice[end]
	h.IntSlice = h.IntSlice[:end]
	return x
}

// bare are the states but the one that is from which none was made.
func (t *Tree) bare() *least {
	h := &least{}
	for seq, s := range t.states {
		if s.on == none && seq != t.now {
			heap.Push(h, seq)
		}
	}
	return h
}

// letGo makes room of one state.
func (t *Tree) letGo() {
	bare := t.bare()
	if bare.Len() == 0 {
		t.dropFirst()
		return
	}
	t.drop(heap.Pop(bare).(int))
}

// drop takes out a state from which none was made.
func (t *Tree) drop(seq int) {
	from := t.states[seq].from
	delete(t.states, seq)
	if s := t.states[from]; s.on == seq {
		s.on = t.newest(from)
	}
}

// newest is the one with the greatest number of those that were made from a state.
func (t *Tree) newest(from int) int {
	found := none
	for seq, s := range t.states {
		if s.from == from {
			found = max(found, seq)
		}
	}
	return found
}

// dropFirst takes out the first state of a row in which each is made from the one ahead of it: its way on is then all that was made from it.
func (t *Tree) dropFirst() {
	first := t.numbers()[0]
	second := t.states[t.states[first].on]
	delete(t.states, first)
	second.from, second.by = none, nil
}
