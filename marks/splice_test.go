package marks_test

import (
	"math"
	"testing"

	"emendator/marks"
)

func TestExample(t *testing.T) {
	m := marked(t, 5)
	m.Splice(2, 1, 3)
	check(t, m, "a7")
	m.Splice(7, 2, 0)
	check(t, m, "")
}

// checkSplice is of marks in lines 1, 2, and so on: where they are then; 0: gone.
func checkSplice(t *testing.T, line, n, lines int, want ...int) {
	t.Helper()
	m := marked(t, rising(len(want))...)
	m.Splice(line, n, lines)
	check(t, m, places(want...))
}

// TestPutIn: of line and behind it all go on; those ahead stay.
func TestPutIn(t *testing.T) {
	checkSplice(t, 3, 0, 1, 1, 2, 4, 5, 6)
	checkSplice(t, 3, 0, 2, 1, 2, 5, 6, 7)
	checkSplice(t, 1, 0, 1, 2, 3, 4, 5, 6)
	checkSplice(t, 1, 0, 100, 101, 102, 103, 104, 105)
	checkSplice(t, 5, 0, 4, 1, 2, 3, 4, 9)
	checkSplice(t, 6, 0, 4, 1, 2, 3, 4, 5)
	checkSplice(t, 99, 0, 4, 1, 2, 3, 4, 5)
}

func TestTakenOut(t *testing.T) {
	checkSplice(t, 3, 1, 0, 1, 2, 0, 3, 4)
	checkSplice(t, 3, 2, 0, 1, 2, 0, 0, 3)
	checkSplice(t, 1, 1, 0, 0, 1, 2, 3, 4)
	checkSplice(t, 1, 4, 0, 0, 0, 0, 0, 1)
	checkSplice(t, 1, 5, 0, 0, 0, 0, 0, 0)
	checkSplice(t, 1, 99, 0, 0, 0, 0, 0, 0)
	checkSplice(t, 5, 1, 0, 1, 2, 3, 4, 0)
	checkSplice(t, 4, 99, 0, 1, 2, 3, 0, 0)
	checkSplice(t, 6, 1, 0, 1, 2, 3, 4, 5)
}

// TestReplaced: of n lines the first ones keep their marks, as many as are put there.
func TestReplaced(t *testing.T) {
	checkSplice(t, 2, 3, 1, 1, 2, 0, 0, 3, 4)
	checkSplice(t, 2, 3, 2, 1, 2, 3, 0, 4, 5)
	checkSplice(t, 2, 3, 3, 1, 2, 3, 4, 5, 6)
	checkSplice(t, 2, 3, 4, 1, 2, 3, 4, 6, 7)
	checkSplice(t, 2, 3, 9, 1, 2, 3, 4, 11, 12)
	checkSplice(t, 1, 1, 1, 1, 2, 3, 4, 5, 6)
	checkSplice(t, 1, 1, 2, 1, 3, 4, 5, 6, 7)
	checkSplice(t, 1, 2, 1, 1, 0, 2, 3, 4, 5)
	checkSplice(t, 1, 6, 1, 1, 0, 0, 0, 0, 0)
	checkSplice(t, 1, 6, 5, 1, 2, 3, 4, 5, 0)
	checkSplice(t, 1, 6, 6, 1, 2, 3, 4, 5, 6)
	checkSplice(t, 1, 6, 7, 1, 2, 3, 4, 5, 6)
	checkSplice(t, 6, 1, 3, 1, 2, 3, 4, 5, 6)
	checkSplice(t, 5, 1, 3, 1, 2, 3, 4, 5, 8)
}

// TestNothingForNothing: no lines in the place of none.
func TestNothingForNothing(t *testing.T) {
	for line := range 8 {
		checkSplice(t, line, 0, 0, 1, 2, 3, 4, 5, 6)
	}
}

// TestOneMoreOneLess: n and lines the same, one more and one less than the other, of all n.
func TestOneMoreOneLess(t *testing.T) {
	for n := 1; n < 9; n++ {
		m := marked(t, 4, 4+n-1, 4+n, 4+n+1)
		m.Splice(4, n, n)
		check(t, m, places(4, 4+n-1, 4+n, 4+n+1))
		m.Splice(4, n, n+1)
		check(t, m, places(4, 4+n-1, 4+n+1, 4+n+2))
		m.Splice(4, n+1, n)
		check(t, m, places(4, 4+n-1, 4+n, 4+n+1))
		m.Splice(4, n, n-1)
		first := 4
		if n == 1 {
			first = 0
		}
		check(t, m, places(first, 0, 4+n-1, 4+n))
	}
}

// TestMarksOfOneLine: all go the same way.
func TestMarksOfOneLine(t *testing.T) {
	m := marked(t, 5, 5, 5, 2, 2)
	m.Splice(3, 1, 4)
	check(t, m, "a8 b8 c8 d2 e2")
	m.Splice(2, 1, 0)
	check(t, m, "a7 b7 c7")
	m.Splice(7, 1, 1)
	check(t, m, "a7 b7 c7")
	m.Splice(6, 2, 1)
	check(t, m, "")
}

// TestAllNamesSpliced: all 26, of which some are gone and the others go on.
func TestAllNamesSpliced(t *testing.T) {
	m := marked(t, rising(26)...)
	m.Splice(6, 10, 3)
	check(t, m, places(1, 2, 3, 4, 5, 6, 7, 8, 0, 0, 0, 0, 0, 0, 0, 9, 10, 11, 12, 13, 14, 15, 16, 17, 18, 19))
	m.Splice(1, 30, 0)
	check(t, m, "")
	m.Splice(1, 30, 0)
	m.Splice(1, 0, 5)
	check(t, m, "")
}

// TestSpliceRefuses: numbers that it does not take change nothing, be the others as they may.
func TestSpliceRefuses(t *testing.T) {
	low := []int{-1, -2, -top, -top - 1, math.MinInt, math.MinInt + 1, -1 << 32}
	high := []int{top + 1, top + 2, 1 << 32, 1<<32 + 1, math.MaxInt, math.MaxInt - 1}
	for _, wrong := range append(low, high...) {
		checkSplice(t, wrong, 1, 0, 1, 2, 3, 4)
		checkSplice(t, wrong, 0, 1, 1, 2, 3, 4)
		checkSplice(t, wrong, 9, 9, 1, 2, 3, 4)
		checkSplice(t, 2, wrong, 0, 1, 2, 3, 4)
		checkSplice(t, 2, wrong, 1, 1, 2, 3, 4)
		checkSplice(t, 2, 0, wrong, 1, 2, 3, 4)
		checkSplice(t, 2, 1, wrong, 1, 2, 3, 4)
		checkSplice(t, 2, wrong, wrong, 1, 2, 3, 4)
		checkSplice(t, wrong, wrong, wrong, 1, 2, 3, 4)
	}
	checkSplice(t, 0, 1, 0, 1, 2, 3, 4)
	checkSplice(t, 0, 2, 0, 1, 2, 3, 4)
	checkSplice(t, 0, 0, 1, 1, 2, 3, 4)
}

// TestSpliceGreatestNumbers: what is just within is taken; a mark may go beyond what it can be set to, and come back.
func TestSpliceGreatestNumbers(t *testing.T) {
	checkSplice(t, 1, top, 0, 0, 0, 0, 0)
	checkSplice(t, 2, top, 0, 1, 0, 0, 0)
	checkSplice(t, 2, top, 2, 1, 2, 3, 0)
	checkSplice(t, 2, top, top, 1, 2, 3, 4)
	checkSplice(t, 2, 0, top, 1, 2+top, 3+top, 4+top)
	checkSplice(t, 2, 1, top, 1, 2, 2+top, 3+top)
	checkSplice(t, top, 0, top, 1, 2, 3, 4)
	checkSplice(t, top, 0, 1, 1, 2, 3, 4)

	m := marked(t, top, top-1, 1)
	m.Splice(top, 0, 1)
	check(t, m, places(top+1, top-1, 1))
	m.Splice(top, 1, 0)
	check(t, m, places(top, top-1, 1))
	m.Splice(1, 0, top)
	check(t, m, places(2*top, 2*top-1, top+1))
	m.Splice(top, top, 0)
	check(t, m, places(top, 0, 0))
	m.Splice(top, 1, 0)
	check(t, m, "")
}

// TestSpliceOfNone: marks that are not there do not come to be.
func TestSpliceOfNone(t *testing.T) {
	m := marks.New()
	for _, n := range []int{0, 1, 5, top} {
		m.Splice(1, n, 3)
		m.Splice(3, 1, n)
	}
	check(t, m, "")
}
