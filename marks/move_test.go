package marks_test

import (
	"math"
	"testing"

	"emendator/marks"
)

// checkMove is of marks in lines 1, 2, and so on: where they are then.
func checkMove(t *testing.T, from, to, behind int, want ...int) {
	t.Helper()
	m := marked(t, rising(len(want))...)
	m.Move(from, to, behind)
	check(t, m, places(want...))
}

func TestMoveDown(t *testing.T) {
	checkMove(t, 2, 2, 3, 1, 3, 2, 4, 5, 6)
	checkMove(t, 2, 2, 5, 1, 5, 2, 3, 4, 6)
	checkMove(t, 2, 3, 5, 1, 4, 5, 2, 3, 6)
	checkMove(t, 2, 3, 4, 1, 3, 4, 2, 5, 6)
	checkMove(t, 2, 4, 5, 1, 3, 4, 5, 2, 6)
	checkMove(t, 1, 2, 6, 5, 6, 1, 2, 3, 4)
	checkMove(t, 1, 5, 6, 2, 3, 4, 5, 6, 1)
	checkMove(t, 1, 1, 6, 6, 1, 2, 3, 4, 5)
}

func TestMoveUp(t *testing.T) {
	checkMove(t, 3, 3, 1, 1, 3, 2, 4, 5, 6)
	checkMove(t, 5, 5, 1, 1, 3, 4, 5, 2, 6)
	checkMove(t, 4, 5, 1, 1, 4, 5, 2, 3, 6)
	checkMove(t, 4, 5, 2, 1, 2, 5, 3, 4, 6)
	checkMove(t, 3, 5, 1, 1, 5, 2, 3, 4, 6)
	checkMove(t, 5, 6, 0, 3, 4, 5, 6, 1, 2)
	checkMove(t, 2, 6, 0, 6, 1, 2, 3, 4, 5)
	checkMove(t, 6, 6, 0, 2, 3, 4, 5, 6, 1)
	checkMove(t, 2, 2, 0, 2, 1, 3, 4, 5, 6)
}

// TestMoveBackAgain: lines that go down and then up again are where they were.
func TestMoveBackAgain(t *testing.T) {
	m := marked(t, rising(9)...)
	m.Move(3, 4, 7)
	check(t, m, places(1, 2, 6, 7, 3, 4, 5, 8, 9))
	m.Move(6, 7, 2)
	check(t, m, places(rising(9)...))
}

// TestNothingMoves: behind the line ahead of them, within them, behind the last of them.
func TestNothingMoves(t *testing.T) {
	for from := 1; from <= 6; from++ {
		for to := from; to <= 6; to++ {
			for behind := from - 1; behind <= to; behind++ {
				checkMove(t, from, to, behind, 1, 2, 3, 4, 5, 6)
			}
		}
	}
}

// TestMoveJustBeyond: one less than from - 1, one more than to.
func TestMoveJustBeyond(t *testing.T) {
	checkMove(t, 3, 4, 1, 1, 4, 2, 3, 5, 6)
	checkMove(t, 3, 4, 2, 1, 2, 3, 4, 5, 6)
	checkMove(t, 3, 4, 3, 1, 2, 3, 4, 5, 6)
	checkMove(t, 3, 4, 4, 1, 2, 3, 4, 5, 6)
	checkMove(t, 3, 4, 5, 1, 2, 4, 5, 3, 6)
}

// TestMoveFarLines: where no mark stands, or only some.
func TestMoveFarLines(t *testing.T) {
	checkMove(t, 10, 20, 30, 1, 2, 3, 4)
	checkMove(t, 10, 20, 4, 1, 2, 3, 4)
	checkMove(t, 10, 20, 2, 1, 2, 14, 15)
	checkMove(t, 10, 20, 0, 12, 13, 14, 15)
	checkMove(t, 3, 20, 30, 1, 2, 13, 14)
	checkMove(t, 2, 3, 100, 1, 99, 100, 2)
}

func TestMoveMarksOfOneLine(t *testing.T) {
	m := marked(t, 5, 5, 2, 2, 9)
	m.Move(5, 5, 1)
	check(t, m, "a2 b2 c3 d3 e9")
	m.Move(2, 3, 9)
	check(t, m, "a8 b8 c9 d9 e7")
}

func TestMoveAllNames(t *testing.T) {
	m := marked(t, rising(26)...)
	m.Move(1, 13, 26)
	check(t, m, places(14, 15, 16, 17, 18, 19, 20, 21, 22, 23, 24, 25, 26, 1, 2, 3, 4, 5, 6, 7, 8, 9, 10, 11, 12, 13))
}

// TestMoveRefuses: numbers that it does not take change nothing, be the others as they may.
func TestMoveRefuses(t *testing.T) {
	wrong := []int{-1, -2, -top, -top - 1, math.MinInt, math.MinInt + 1, -1 << 32, top + 1, top + 2, 1 << 32, 1<<32 + 1, math.MaxInt, math.MaxInt - 1}
	for _, n := range wrong {
		checkMove(t, n, 2, 4, 1, 2, 3, 4)
		checkMove(t, n, n, 4, 1, 2, 3, 4)
		checkMove(t, n, 4, 0, 1, 2, 3, 4)
		checkMove(t, 3, n, 1, 1, 2, 3, 4)
		checkMove(t, 2, n, 0, 1, 2, 3, 4)
		checkMove(t, 1, n, 4, 1, 2, 3, 4)
		checkMove(t, 1, 2, n, 1, 2, 3, 4)
		checkMove(t, 3, 4, n, 1, 2, 3, 4)
		checkMove(t, n, n, n, 1, 2, 3, 4)
		checkMove(t, n, n, 0, 1, 2, 3, 4)
	}
}

// TestMoveRefusesLines: line 0 is none, and from is not behind to.
func TestMoveRefusesLines(t *testing.T) {
	checkMove(t, 0, 0, 4, 1, 2, 3, 4)
	checkMove(t, 0, 1, 4, 1, 2, 3, 4)
	checkMove(t, 0, 2, 3, 1, 2, 3, 4)
	checkMove(t, 2, 1, 4, 1, 2, 3, 4)
	checkMove(t, 3, 2, 0, 1, 2, 3, 4)
	checkMove(t, 3, 1, 4, 1, 2, 3, 4)
	checkMove(t, 4, 2, 0, 1, 2, 3, 4)
	checkMove(t, 4, 3, 1, 1, 2, 3, 4)
	checkMove(t, 1, 0, 4, 1, 2, 3, 4)
}

func TestMoveGreatestNumbers(t *testing.T) {
	checkMove(t, 1, 1, top, top, 1, 2, 3)
	checkMove(t, 2, 3, top, 1, top-1, top, 2)
	checkMove(t, top, top, 0, 2, 3, 4, 5)
	checkMove(t, 3, top, 0, top-1, top, 1, 2)
	checkMove(t, 2, top, 0, top, 1, 2, 3)
	checkMove(t, 1, top, 0, 1, 2, 3, 4)
	checkMove(t, 1, top, top, 1, 2, 3, 4)
	checkMove(t, top, top, top-1, 1, 2, 3, 4)
	checkMove(t, top, top, top-2, 1, 2, 3, 4)
	checkMove(t, 1, top-1, top, 2, 3, 4, 5)
	m := marked(t, top, top-1, top-2, 1)
	m.Move(top, top, top-2)
	check(t, m, places(top-1, top, top-2, 1))
	m.Move(top-2, top-1, top)
	check(t, m, places(top, top-2, top-1, 1))
	m.Splice(1, 0, 1)
	check(t, m, places(top+1, top-1, top, 2))
	m.Move(1, top-1, top)
	check(t, m, places(top+1, top, 1, 3))
	m.Move(2, top, 0)
	check(t, m, places(top+1, top-1, top, 2))
}

func TestMoveOfNone(t *testing.T) {
	m := marks.New()
	m.Move(1, 2, 5)
	m.Move(4, 5, 0)
	check(t, m, "")
}
