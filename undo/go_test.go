package undo_test

import (
	"math"
	"testing"

	"emendator/undo"
)

// bush is a tree of states that were made from several ones:
//
//	0 - 1 - 2 - 3
//	     \   \- 4 - 5
//	      \- 6
//	 \- 7 - 8
//
// NOW is 8.
func bush(t testing.TB) *undo.Tree {
	t.Helper()
	x := tree(t, 200)
	adds(t, x, 1, 3)
	x.Go(2)
	adds(t, x, 4, 5)
	x.Go(1)
	adds(t, x, 6, 6)
	x.Go(0)
	adds(t, x, 7, 8)
	check(t, x, "0.-1 1.0 2.1 3.2 4.2 5.4 6.1 7.0 8.7 now 8")
	return x
}

// above are the states from which each of a bush comes, itself first.
var above = [][]int{{0}, {1, 0}, {2, 1, 0}, {3, 2, 1, 0}, {4, 2, 1, 0}, {5, 4, 2, 1, 0}, {6, 1, 0}, {7, 0}, {8, 7, 0}}

// way is which changes lead in a bush from one state to another.
func way(from, to int) string {
	a, b := above[from], above[to]
	for len(a) > 0 && len(b) > 0 && a[len(a)-1] == b[len(b)-1] {
		a, b = a[:len(a)-1], b[:len(b)-1]
	}
	var all []int
	for _, n := range a {
		all = append(all, -n)
	}
	for i := range b {
		all = append(all, b[len(b)-1-i])
	}
	return ways(all...)
}

// TestExample is the chapter's.
func TestExample(t *testing.T) {
	x := tree(t, 9)
	add(t, x, by(1))
	leads(t, x, 0, ways(-1))(x.Undo())
	add(t, x, by(2))
	check(t, x, "0.-1 1.0 2.0 now 2")
	leads(t, x, 1, ways(-2, 1))(x.Go(1))
}

// TestUndo: to the first, and no further; nothing changes then.
func TestUndo(t *testing.T) {
	x := tree(t, 9)
	adds(t, x, 1, 3)
	leads(t, x, 2, ways(-3))(x.Undo())
	leads(t, x, 1, ways(-2))(x.Undo())
	leads(t, x, 0, ways(-1))(x.Undo())
	leads(t, x, 0, end)(x.Undo())
	leads(t, x, 0, end)(x.Undo())
	check(t, x, "0.-1 1.0 2.1 3.2 now 0")
	leads(t, x, 1, ways(1))(x.Redo())
}

// TestRedo: to the last, and no further; nothing changes then.
func TestRedo(t *testing.T) {
	x := tree(t, 9)
	adds(t, x, 1, 3)
	x.Go(0)
	leads(t, x, 1, ways(1))(x.Redo())
	leads(t, x, 2, ways(2))(x.Redo())
	leads(t, x, 3, ways(3))(x.Redo())
	leads(t, x, 3, end)(x.Redo())
	leads(t, x, 3, end)(x.Redo())
	check(t, x, "0.-1 1.0 2.1 3.2 now 3")
	leads(t, x, 2, ways(-3))(x.Undo())
}

// TestUndoLeavesTheWayOn: it is where one came from, not the one that was made last.
func TestUndoLeavesTheWayOn(t *testing.T) {
	x := bush(t)
	leads(t, x, 3, way(8, 3))(x.Go(3))
	leads(t, x, 2, ways(-3))(x.Undo())
	leads(t, x, 3, ways(3))(x.Redo())
	leads(t, x, 5, way(3, 5))(x.Go(5))
	leads(t, x, 4, ways(-5))(x.Undo())
	leads(t, x, 2, ways(-4))(x.Undo())
	leads(t, x, 4, ways(4))(x.Redo())
	leads(t, x, 5, ways(5))(x.Redo())
	leads(t, x, 5, end)(x.Redo())
}

// TestGoAnywhere: from each state to each one, by the shortest way, and what is there stays.
func TestGoAnywhere(t *testing.T) {
	for from := range above {
		for to := range above {
			x := bush(t)
			leads(t, x, from, way(8, from))(x.Go(from))
			leads(t, x, to, way(from, to))(x.Go(to))
			leads(t, x, to, "")(x.Go(to))
			leads(t, x, from, way(to, from))(x.Go(from))
		}
	}
}

// TestGoNowhere: a state that never was; nothing changes.
func TestGoNowhere(t *testing.T) {
	x := bush(t)
	x.Go(2)
	for _, seq := range []int{-1, -2, 9, 10, 200, 1 << 32, math.MinInt, math.MaxInt} {
		leads(t, x, 2, lost)(x.Go(seq))
	}
	check(t, x, "0.-1 1.0 2.1 3.2 4.2 5.4 6.1 7.0 8.7 now 2")
	leads(t, x, 4, ways(4))(x.Redo())
}

// TestGoLeavesWaysOn: up, those by which one came; down, those by which one goes; beside these, what they were.
func TestGoLeavesWaysOn(t *testing.T) {
	for _, c := range []struct {
		from, to int
		then     []int
	}{
		{8, 3, nil},
		{3, 1, []int{2, 3}},
		{5, 0, []int{1, 2, 4, 5}},
		{6, 0, []int{1, 6}},
		{0, 2, []int{4, 5}},
		{8, 0, []int{7, 8}},
		{0, 7, []int{8}},
		{3, 2, []int{3}},
		{3, 4, []int{5}},
		{0, 1, []int{6}},
	} {
		x := bush(t)
		x.Go(c.from)
		at := c.to
		leads(t, x, at, way(c.from, at))(x.Go(at))
		for _, n := range c.then {
			leads(t, x, n, way(at, n))(x.Redo())
			at = n
		}
		leads(t, x, at, end)(x.Redo())
	}
}

// TestGoOverTheTop: where both ways meet, the way ON is the one down.
func TestGoOverTheTop(t *testing.T) {
	for _, c := range []struct{ from, to, top, on int }{
		{3, 5, 2, 4}, {5, 3, 2, 3}, {3, 6, 1, 6}, {6, 4, 1, 2}, {8, 6, 0, 1}, {5, 7, 0, 7}, {3, 8, 0, 7},
	} {
		x := bush(t)
		x.Go(c.from)
		x.Go(c.to)
		for x.Now() != c.top {
			if _, e := x.Undo(); e != 0 {
				t.Fatalf("%v: error %d", c, e)
			}
		}
		leads(t, x, c.on, way(c.top, c.on))(x.Redo())

		x = bush(t)
		x.Go(c.from)
		x.Go(c.to)
		adds(t, x, 9, 9)
		leads(t, x, c.top, ways(-9)+" "+way(c.to, c.top))(x.Go(c.top))
		leads(t, x, c.on, way(c.top, c.on))(x.Redo())
	}
}

// TestGoLeavesTheOldBranch: the states that one goes up keep as their ways ON those by which one came, also where one goes down elsewhere.
func TestGoLeavesTheOldBranch(t *testing.T) {
	x := bush(t)
	x.Go(3)
	x.Go(6)
	x.Go(2)
	leads(t, x, 3, ways(3))(x.Redo())
}

// TestGoDownLaysWaysOn: straight down, past ways ON that were others.
func TestGoDownLaysWaysOn(t *testing.T) {
	x := bush(t)
	x.Go(0)
	leads(t, x, 3, ways(1, 2, 3))(x.Go(3))
	for _, n := range []int{3, 2, 1} {
		leads(t, x, n-1, ways(-n))(x.Undo())
	}
	for n := 1; n <= 3; n++ {
		leads(t, x, n, ways(n))(x.Redo())
	}
}

// TestItsOwnWayOnStays: the one that is gone to keeps its own.
func TestItsOwnWayOnStays(t *testing.T) {
	x := bush(t)
	leads(t, x, 3, way(8, 3))(x.Go(3))
	leads(t, x, 8, way(3, 8))(x.Go(8))
	leads(t, x, 2, way(8, 2))(x.Go(2))
	leads(t, x, 3, ways(3))(x.Redo())
}

// TestEarlier, TestLater: by the numbers, wherever these stand.
func TestEarlier(t *testing.T) {
	for from := range above {
		for n := 1; n <= 12; n++ {
			x := bush(t)
			x.Go(from)
			if from == 0 {
				leads(t, x, 0, end)(x.Earlier(n))
				continue
			}
			to := max(0, from-n)
			leads(t, x, to, way(from, to))(x.Earlier(n))
		}
	}
}

func TestLater(t *testing.T) {
	for from := range above {
		for n := 1; n <= 12; n++ {
			x := bush(t)
			x.Go(from)
			if from == 8 {
				leads(t, x, 8, end)(x.Later(n))
				continue
			}
			to := min(8, from+n)
			leads(t, x, to, way(from, to))(x.Later(n))
		}
	}
}

// TestEarlierAndLaterOfAnyNumber: n below 1 is refused, ahead of the end; n beyond all states leads to the last of them.
func TestEarlierAndLaterOfAnyNumber(t *testing.T) {
	for from := range above {
		x := bush(t)
		x.Go(from)
		for _, n := range []int{0, -1, -2, -8, math.MinInt, math.MinInt + 1} {
			leads(t, x, from, arg)(x.Earlier(n))
			leads(t, x, from, arg)(x.Later(n))
		}
		for _, n := range []int{9, 200, 1 << 32, math.MaxInt - 1, math.MaxInt} {
			x.Go(3)
			leads(t, x, 0, way(3, 0))(x.Earlier(n))
			leads(t, x, 0, end)(x.Earlier(n))
			x.Go(3)
			leads(t, x, 8, way(3, 8))(x.Later(n))
			leads(t, x, 8, end)(x.Later(n))
		}
	}
}

// TestEarlierAndLaterPastThoseGone: they are not counted.
func TestEarlierAndLaterPastThoseGone(t *testing.T) {
	x := tree(t, 6)
	adds(t, x, 1, 1)
	for n := 2; n <= 7; n++ {
		x.Go(1)
		adds(t, x, n, n)
	}
	check(t, x, "0.-1 1.0 4.1 5.1 6.1 7.1 now 7")
	leads(t, x, 4, ways(-7, 4))(x.Earlier(3))
	leads(t, x, 1, ways(-4))(x.Earlier(1))
	leads(t, x, 5, ways(5))(x.Later(2))
	leads(t, x, 0, ways(-5, -1))(x.Earlier(3))
	leads(t, x, 6, ways(1, 6))(x.Later(4))
	leads(t, x, 7, ways(-6, 7))(x.Later(4))
	adds(t, x, 8, 8)
	check(t, x, "0.-1 1.0 5.1 6.1 7.1 8.7 now 8")
}

// TestEarlierAndLaterLeaveWaysOn: as Go does.
func TestEarlierAndLaterLeaveWaysOn(t *testing.T) {
	x := bush(t)
	leads(t, x, 3, way(8, 3))(x.Earlier(5))
	leads(t, x, 2, ways(-3))(x.Undo())
	leads(t, x, 3, ways(3))(x.Redo())
	leads(t, x, 6, way(3, 6))(x.Later(3))
	leads(t, x, 1, ways(-6))(x.Undo())
	leads(t, x, 6, ways(6))(x.Redo())
	leads(t, x, 2, way(6, 2))(x.Earlier(4))
	leads(t, x, 3, ways(3))(x.Redo())
}
