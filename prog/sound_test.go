package prog_test

import (
	"math"
	"slices"
	"testing"

	"emendator/api"
	"emendator/prog"
)

// numbers at and beyond all bounds.
var numbers = []int{math.MinInt, -2001, -1, 0, 1, 2, 3, 4, 9, 10, 11, 20, 21, 22, 23, 1998, 1999, 2000, 2001, math.MaxInt}

// checkSound tries what Sound says, and that it changes nothing.
func checkSound(t *testing.T, p api.Prog, want bool) {
	t.Helper()
	before := slices.Clone(p.Code)
	if prog.Sound(p) != want {
		t.Errorf("Sound: %v, of %d rounds and\n%s", !want, p.Rounds, text(p.Code))
	}
	if !slices.Equal(p.Code, before) {
		t.Errorf("changed:\n%s\nwas\n%s", text(p.Code), text(before))
	}
}

// long is a program of that many instructions that is sound but for its length.
func long(n int) api.Prog {
	code := make([]api.Inst, n)
	for i := range code {
		code[i].Op = api.InAny
	}
	if n > 0 {
		code[n-1].Op = api.InMatch
	}
	return api.Prog{Code: code}
}

func TestHowManyInstructions(t *testing.T) {
	checkSound(t, api.Prog{}, false)
	checkSound(t, api.Prog{Code: []api.Inst{}}, false)
	checkSound(t, api.Prog{Rounds: 1, Fold: true}, false)
	for _, n := range []int{0, 1, 2, 3, 1999, 2000, 2001, 2002, 4000} {
		checkSound(t, long(n), n >= 1 && n <= 2000)
	}
}

func TestHowManyRounds(t *testing.T) {
	for _, rounds := range numbers {
		p := long(3)
		p.Rounds = rounds
		checkSound(t, p, rounds >= 0 && rounds <= 2000)
	}
}

// TestEachKind: of three instructions the one in the middle, of each kind that there is and is not.
func TestEachKind(t *testing.T) {
	for op := range 256 {
		for _, fold := range []bool{false, true} {
			p := long(3)
			p.Code[1] = api.Inst{Op: uint8(op)}
			p.Rounds, p.Fold = 1, fold
			checkSound(t, p, op >= 1 && op <= 14)
			p.Code[0], p.Code[1] = p.Code[1], p.Code[0]
			checkSound(t, p, op >= 1 && op <= 14)
		}
	}
}

// xFits says, of a program of three instructions, what X an instruction may have.
func xFits(op uint8, x, rounds int) bool {
	switch op {
	case api.InSplit, api.InJump:
		return x >= 0 && x <= 2
	case api.InSave:
		return x >= 0 && x <= 21
	case api.InBack:
		return x >= 0 && x <= 9
	case api.InStart, api.InGone:
		return x >= 0 && x <= rounds-1
	}
	return true
}

func TestNumbersOfInstructions(t *testing.T) {
	for op := uint8(1); op <= 14; op++ {
		for _, rounds := range []int{0, 1, 2, 10, 2000} {
			for _, n := range numbers {
				p := long(3)
				p.Rounds = rounds
				p.Code[1] = api.Inst{Op: op, X: n}
				checkSound(t, p, xFits(op, n, rounds))
				// Y is asked of InSplit alone.
				p.Code[1] = api.Inst{Op: op, Y: n}
				checkSound(t, p, xFits(op, 0, rounds) && (op != api.InSplit || n >= 0 && n <= 2))
			}
		}
	}
}

// TestPlacesInLongPrograms: places are held against the program's own length, not against the longest one's.
func TestPlacesInLongPrograms(t *testing.T) {
	for _, size := range []int{1, 2, 5, 1999, 2000} {
		for _, place := range []int{-1, 0, 1, 4, 5, size - 2, size - 1, size, size + 1} {
			within := place >= 0 && place < size
			p := long(size)
			p.Code[size-1] = api.Inst{Op: api.InJump, X: place}
			checkSound(t, p, within)
			if size > 1 {
				for _, i := range []api.Inst{{Op: api.InSplit, X: place}, {Op: api.InSplit, Y: place}, {Op: api.InSplit, X: place, Y: place}, {Op: api.InJump, X: place}} {
					p = long(size)
					p.Code[0] = i
					checkSound(t, p, within)
				}
			}
		}
	}
}

// TestNoOtherFields: what an instruction does not name may be anything.
func TestNoOtherFields(t *testing.T) {
	for op := uint8(1); op <= 14; op++ {
		p := long(3)
		p.Rounds = 1
		p.Code[1] = api.Inst{Op: op, C: 200, Set: api.Set{1, 2, 3, 4}}
		checkSound(t, p, true)
	}
	p := long(2)
	p.Code[1] = api.Inst{Op: api.InMatch, C: 1, Set: api.Set{5}, X: -7, Y: 7000}
	checkSound(t, p, true)
}

// TestTheLastInstruction: InMatch or InJump; the others may stand anywhere, also there where nothing comes to.
func TestTheLastInstruction(t *testing.T) {
	for op := range 256 {
		ends := uint8(op) == api.InMatch || uint8(op) == api.InJump
		checkSound(t, api.Prog{Code: []api.Inst{{Op: uint8(op)}}, Rounds: 1}, ends)
		checkSound(t, api.Prog{Code: []api.Inst{{Op: api.InMatch}, {Op: uint8(op)}}, Rounds: 1}, ends)
		checkSound(t, api.Prog{Code: []api.Inst{{Op: api.InJump}, {Op: uint8(op)}}, Rounds: 1}, ends)
	}
}

// TestEachPlaceIsLookedAt: one wrong instruction, wherever it stands, makes the whole unsound.
func TestEachPlaceIsLookedAt(t *testing.T) {
	for at := range 2000 {
		p := long(2000)
		p.Code[at] = api.Inst{Op: api.InSave, X: 22}
		if prog.Sound(p) {
			t.Errorf("sound with a wrong instruction at %d", at)
		}
	}
}

// TestCodeThatLiesBehind: neither read, nor a place.
func TestCodeThatLiesBehind(t *testing.T) {
	all := []api.Inst{{Op: api.InAny}, {Op: api.InMatch}, {Op: 77}}
	checkSound(t, api.Prog{Code: all[:2]}, true)
	all[2].Op = api.InMatch
	all[1].Op = api.InAny
	checkSound(t, api.Prog{Code: all[:2]}, false)
	all[1] = api.Inst{Op: api.InJump, X: 2}
	checkSound(t, api.Prog{Code: all[:2]}, false)
	checkSound(t, api.Prog{Code: all}, true)
}

// TestProgramsThatNeverEnd: that one goes round and round is no matter here.
func TestProgramsThatNeverEnd(t *testing.T) {
	checkSound(t, api.Prog{Code: codes("jump 0")}, true)
	checkSound(t, api.Prog{Code: codes("split 0 0; jump 0")}, true)
	checkSound(t, api.Prog{Code: codes("start 1; gone 1; jump 1"), Rounds: 2}, true)
	checkSound(t, api.Prog{Code: codes("start 1; gone 1; jump 1"), Rounds: 1}, false)
}
