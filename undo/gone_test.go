package undo_test

import (
	"fmt"
	"strings"
	"testing"

	"emendator/api"
)

// TestRowLosesItsFirst: none could go but the first; the one made from it has no FROM and no changes any more.
func TestRowLosesItsFirst(t *testing.T) {
	x := tree(t, 3)
	adds(t, x, 1, 2)
	check(t, x, "0.-1 1.0 2.1 now 2")
	adds(t, x, 3, 3)
	check(t, x, "1.-1 2.1 3.2 now 3")
	leads(t, x, 3, lost)(x.Go(0))
	leads(t, x, 1, ways(-3, -2))(x.Go(1))
	leads(t, x, 1, end)(x.Undo())
	leads(t, x, 1, end)(x.Earlier(1))
	leads(t, x, 3, ways(2, 3))(x.Go(3))
	adds(t, x, 4, 6)
	check(t, x, "4.-1 5.4 6.5 now 6")
	for seq := -1; seq <= 3; seq++ {
		leads(t, x, 6, lost)(x.Go(seq))
	}
}

// TestMostOne: there is NOW alone, each time.
func TestMostOne(t *testing.T) {
	x := tree(t, 1)
	for n := 1; n <= 5; n++ {
		adds(t, x, n, n)
		check(t, x, fmt.Sprintf("%d.-1 now %d", n, n))
		leads(t, x, n, end)(x.Undo())
		leads(t, x, n, end)(x.Redo())
		leads(t, x, n, end)(x.Earlier(1))
		leads(t, x, n, end)(x.Later(1))
		leads(t, x, n, lost)(x.Go(n - 1))
		leads(t, x, n, lost)(x.Go(0))
		leads(t, x, n, lost)(x.Go(n + 1))
		leads(t, x, n, "")(x.Go(n))
	}
}

// TestMostTwo: NOW and the one from which it was made, whatever else is.
func TestMostTwo(t *testing.T) {
	x := tree(t, 2)
	adds(t, x, 1, 1)
	leads(t, x, 0, ways(-1))(x.Undo())
	adds(t, x, 2, 2)
	check(t, x, "0.-1 2.0 now 2")
	leads(t, x, 0, ways(-2))(x.Undo())
	leads(t, x, 2, ways(2))(x.Redo())
	adds(t, x, 3, 3)
	check(t, x, "2.-1 3.2 now 3")
}

// TestLeastOfThoseFromWhichNoneWasMade: not the least of all, nor the oldest way.
func TestLeastOfThoseFromWhichNoneWasMade(t *testing.T) {
	x := tree(t, 6)
	adds(t, x, 1, 2)
	x.Go(1)
	adds(t, x, 3, 3)
	x.Go(0)
	adds(t, x, 4, 4)
	x.Go(2)
	adds(t, x, 5, 5)
	check(t, x, "0.-1 1.0 2.1 3.1 4.0 5.2 now 5")
	x.Go(0)
	adds(t, x, 6, 6)
	check(t, x, "0.-1 1.0 2.1 4.0 5.2 6.0 now 6")
	adds(t, x, 7, 7)
	check(t, x, "0.-1 1.0 2.1 5.2 6.0 7.6 now 7")
	adds(t, x, 8, 8)
	check(t, x, "0.-1 1.0 2.1 6.0 7.6 8.7 now 8")
	adds(t, x, 9, 9)
	check(t, x, "0.-1 1.0 6.0 7.6 8.7 9.8 now 9")
	adds(t, x, 10, 10)
	check(t, x, "0.-1 6.0 7.6 8.7 9.8 10.9 now 10")
	adds(t, x, 11, 11)
	check(t, x, "6.-1 7.6 8.7 9.8 10.9 11.10 now 11")
	leads(t, x, 6, ways(-11, -10, -9, -8, -7))(x.Go(6))
	leads(t, x, 6, end)(x.Undo())
}

// TestManyFromOne: the least one goes, one after the other; the others stay, and can be gone to.
func TestManyFromOne(t *testing.T) {
	x := tree(t, 4)
	for n := 1; n <= 6; n++ {
		x.Go(0)
		adds(t, x, n, n)
	}
	check(t, x, "0.-1 4.0 5.0 6.0 now 6")
	leads(t, x, 4, ways(-6, 4))(x.Go(4))
	leads(t, x, 4, lost)(x.Go(3))
	leads(t, x, 5, ways(-4, 5))(x.Later(1))
	adds(t, x, 7, 7)
	check(t, x, "0.-1 5.0 6.0 7.5 now 7")
}

// TestNowStays: the one that was added is NOW and stays, though none was made from it; the one that was NOW ahead of it may go.
func TestNowStays(t *testing.T) {
	x := tree(t, 3)
	adds(t, x, 1, 2)
	leads(t, x, 0, ways(-2, -1))(x.Go(0))
	adds(t, x, 3, 3)
	check(t, x, "0.-1 1.0 3.0 now 3")
	adds(t, x, 4, 4)
	check(t, x, "0.-1 3.0 4.3 now 4")
	adds(t, x, 5, 5)
	check(t, x, "3.-1 4.3 5.4 now 5")
}

// TestNotYetTooMany: as many as most are there, and none goes.
func TestNotYetTooMany(t *testing.T) {
	x := tree(t, 5)
	for n := 1; n <= 4; n++ {
		x.Go(0)
		adds(t, x, n, n)
	}
	check(t, x, "0.-1 1.0 2.0 3.0 4.0 now 4")
}

// TestWayOnGoes: NOW is elsewhere as the way ON of another one goes: that has then the greatest of those that were made from there, each time.
func TestWayOnGoes(t *testing.T) {
	for range 20 {
		x := tree(t, 9)
		adds(t, x, 1, 1)
		for n := 2; n <= 7; n++ {
			x.Go(1)
			adds(t, x, n, n)
		}
		x.Go(2)
		x.Go(0)
		adds(t, x, 8, 8)
		check(t, x, "0.-1 1.0 2.1 3.1 4.1 5.1 6.1 7.1 8.0 now 8")
		adds(t, x, 9, 9)
		check(t, x, "0.-1 1.0 3.1 4.1 5.1 6.1 7.1 8.0 9.8 now 9")
		leads(t, x, 1, ways(-9, -8, 1))(x.Go(1))
		leads(t, x, 7, ways(7))(x.Redo())
	}
}

// TestAnotherGoes: which is not the way ON: that stays, though it isn't the greatest.
func TestAnotherGoes(t *testing.T) {
	x := tree(t, 6)
	adds(t, x, 1, 1)
	for n := 2; n <= 4; n++ {
		x.Go(1)
		adds(t, x, n, n)
	}
	x.Go(3)
	x.Go(0)
	adds(t, x, 5, 6)
	check(t, x, "0.-1 1.0 3.1 4.1 5.0 6.5 now 6")
	leads(t, x, 1, ways(-6, -5, 1))(x.Go(1))
	leads(t, x, 3, ways(3))(x.Redo())
}

// TestNoWayOnIsLeft: all that were made from there are gone: there is none, and it may go, too.
func TestNoWayOnIsLeft(t *testing.T) {
	x := tree(t, 4)
	adds(t, x, 1, 2)
	x.Go(0)
	adds(t, x, 3, 4)
	check(t, x, "0.-1 1.0 3.0 4.3 now 4")
	leads(t, x, 1, ways(-4, -3, 1))(x.Go(1))
	leads(t, x, 1, end)(x.Redo())
	leads(t, x, 4, ways(-1, 3, 4))(x.Go(4))
	adds(t, x, 5, 5)
	check(t, x, "0.-1 3.0 4.3 5.4 now 5")
}

// TestNumbersAreNotGivenTwice: also not those of states that are gone, or behind which one went back.
func TestNumbersAreNotGivenTwice(t *testing.T) {
	x := tree(t, 2)
	for n := 1; n <= 20; n++ {
		x.Undo()
		adds(t, x, n, n)
	}
	check(t, x, "0.-1 20.0 now 20")
	adds(t, x, 21, 22)
	check(t, x, "21.-1 22.21 now 22")
}

// TestTheGreatestMost: 200 states stay, and the 201st is one too many.
func TestTheGreatestMost(t *testing.T) {
	x := tree(t, api.MaxUndo)
	adds(t, x, 1, 199)
	if all := x.States(); len(all) != 200 || all[0] != (api.State{Seq: 0, From: -1}) {
		t.Errorf("there are %d, the first %v", len(all), all[0])
	}
	adds(t, x, 200, 200)
	if all := x.States(); len(all) != 200 || all[0] != (api.State{Seq: 1, From: -1}) {
		t.Errorf("there are %d, the first %v", len(all), all[0])
	}
	l, e := x.Go(1)
	if is := call(t, l, e); strings.Count(is, " ") != 198 || !strings.HasPrefix(is, ways(-200, -199)) {
		t.Errorf("it tells %s", is)
	}
}
