package match

import "emendator/api"

// none is what a slot holds where there is no place.
const none = -1

// slots are an array, so that a try that is laid aside has its own by being copied.
type slots [api.Slots]int

func noSlots() slots {
	var s slots
	for i := range s {
		s[i] = none
	}
	return s
}

// group is what a group remembers, from where to where; both are none if it was not begun and ended, in this order.
func (s slots) group(n int) (from, to int) {
	from, to = s[2*n], s[2*n+1]
	if from == none || to < from {
		return none, none
	}
	return from, to
}

// try is one way of going through the code.
type try struct {
	slots
	next    int // place in the code
	at      int // place in the line
	changes int // of rounds, that were written down when it was laid aside
}

func firstTry(at int) try {
	t := try{slots: noSlots(), at: at}
	t.slots[api.SlotFrom] = at
	return t
}

// match tells a try that has come to its end, and began at that place.
func (t try) match(began int) api.Match {
	from := placeOr(t.slots[api.SlotZs], began)
	to := max(from, placeOr(t.slots[api.SlotZe], t.at))
	m := api.Match{From: from, To: to}
	for n := range m.Begin {
		m.Begin[n], m.End[n] = t.group(n)
	}
	m.Begin[0], m.End[0] = from, to
	return m
}

func placeOr(slot, other int) int {
	if slot == none {
		return other
	}
	return slot
}
