package match

import (
	"testing"

	"emendator/api"
)

// TestNoNextInstruction: a program that is sound has one behind all but its last instruction, so no exported call comes to this.
func TestNoNextInstruction(t *testing.T) {
	for op := api.InByte; op < api.InMatch; op++ {
		last := api.Inst{Op: op, C: 'a', Set: api.Set{1: 1 << ('a' - 64)}, X: 1}
		if op == api.InSplit || op == api.InJump {
			continue
		}
		// Behind each of these the program would go on, if there were an InMatch.
		line, at := "-aaa", 1
		switch op {
		case api.InBol:
			at = 0
		case api.InEol, api.InEow:
			at = 4
		}
		code := []api.Inst{{Op: api.InSave, X: 2}, {Op: api.InSave, X: 3}, last, {Op: api.InMatch}}
		p := api.Prog{Code: code, Rounds: 2}
		if is := newMachine(p, line, 9).tryAt(at); is != matched {
			t.Errorf("op %d, and InMatch behind it: %d", op, is)
		}
		p.Code = code[:3]
		m := newMachine(p, line, 9)
		if is := m.tryAt(at); is != failed || m.steps != 6 {
			t.Errorf("op %d as the last one: %d, %d steps left", op, is, m.steps)
		}
	}
}

// TestTriesHaveTheirOwnSlots: those of one that is laid aside are a copy.
func TestTriesHaveTheirOwnSlots(t *testing.T) {
	m := newMachine(api.Prog{Code: []api.Inst{{Op: api.InMatch}}}, "ab", 9)
	m.try = firstTry(1)
	m.layAside(0)
	m.slots[2] = 2
	if m.aside[0].slots[2] != none || m.aside[0].slots[0] != 1 {
		t.Errorf("slots %v", m.aside[0].slots)
	}
}
