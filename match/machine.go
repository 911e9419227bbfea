package match

import "emendator/api"

// machine tries a sound program on a line. The try that goes on is embedded, the others are laid aside in a list, of which the last one goes on first.
type machine struct {
	text
	rounds
	try
	code  []api.Inst
	aside []try
	steps int // that are left
}

// outcome is what comes of a try.
type outcome uint8

const (
	failed outcome = iota
	matched
	outOfSteps
)

func newMachine(p api.Prog, line string, steps int) *machine {
	return &machine{
		text:   text{line: line, fold: p.Fold},
		rounds: rounds{began: make([]int, p.Rounds)},
		code:   p.Code,
		steps:  steps,
	}
}

// tryAt is what comes of all ways at a place, in their order. It begins with no try laid aside: what failed at a place has left none.
func (m *machine) tryAt(at int) outcome {
	m.aside = append(m.aside, firstTry(at))
	for m.resume() {
		if is := m.goOn(); is != failed {
			return is
		}
	}
	return failed
}

// resume takes the try that was laid aside last; false: there is none.
func (m *machine) resume() bool {
	last := len(m.aside) - 1
	if last < 0 {
		return false
	}
	m.try = m.aside[last]
	m.aside = m.aside[:last]
	m.takeBack(m.changes)
	return true
}

func (m *machine) layAside(next int) {
	other := m.try
	other.next = next
	other.changes = len(m.written)
	m.aside = append(m.aside, other)
}

// goOn does the try's instructions till it ends, or there is no step left for one.
func (m *machine) goOn() outcome {
	for m.steps > 0 {
		m.steps--
		i := m.code[m.next]
		if i.Op == api.InMatch {
			return matched
		}
		if !m.do(i) {
			return failed
		}
	}
	return outOfSteps
}

// do goes on to the next instruction; false: this one fails.
func (m *machine) do(i api.Inst) bool {
	switch i.Op {
	case api.InSplit:
		m.layAside(i.Y)
		m.next = i.X
	case api.InJump:
		m.next = i.X
	default:
		m.next++
		return m.next < len(m.code) && m.passes(i)
	}
	return true
}

// passes does an instruction behind which the next one comes.
func (m *machine) passes(i api.Inst) bool {
	switch i.Op {
	case api.InSave:
		m.slots[i.X] = m.at
	case api.InBack:
		return m.passAgain(i.X)
	case api.InBol:
		return m.at == 0
	case api.InEol:
		return m.at == len(m.line)
	case api.InBow:
		return m.isWord(m.at) && !m.isWord(m.at-1)
	case api.InEow:
		return m.isWord(m.at-1) && !m.isWord(m.at)
	case api.InStart:
		m.start(i.X, m.at)
	case api.InGone:
		return m.hasGone(i.X, m.at)
	default:
		return m.passByte(i)
	}
	return true
}

func (m *machine) passByte(i api.Inst) bool {
	if !m.fits(i, m.at) {
		return false
	}
	m.at++
	return true
}

// passAgain passes over what a group remembers.
func (m *machine) passAgain(group int) bool {
	from, to := m.group(group)
	if from == none || !m.repeats(from, to, m.at) {
		return false
	}
	m.at += to - from
	return true
}
