package undo_test

import (
	"math"
	"testing"

	"emendator/api"
	"emendator/undo"
)

// TestNewMost: of 1 to 200 there is one, else none.
func TestNewMost(t *testing.T) {
	for most := -300; most <= 600; most++ {
		if x := undo.New(most); (x != nil) != (1 <= most && most <= 200) {
			t.Errorf("New(%d): %v", most, x)
		}
	}
	for _, most := range []int{math.MinInt, math.MaxInt, 1 << 32, 1<<32 + 1, 256 + 1} {
		if undo.New(most) != nil {
			t.Errorf("New(%d) is there", most)
		}
	}
}

// TestFirst: state 0 alone, which is NOW; there is nowhere to go but to itself.
func TestFirst(t *testing.T) {
	for _, most := range []int{1, 2, 199, 200} {
		x := tree(t, most)
		check(t, x, "0.-1 now 0")
		leads(t, x, 0, end)(x.Undo())
		leads(t, x, 0, end)(x.Redo())
		leads(t, x, 0, "")(x.Go(0))
		leads(t, x, 0, end)(x.Earlier(1))
		leads(t, x, 0, end)(x.Later(1))
		leads(t, x, 0, arg)(x.Earlier(0))
		leads(t, x, 0, arg)(x.Later(0))
		leads(t, x, 0, lost)(x.Go(1))
		leads(t, x, 0, lost)(x.Go(-1))
		check(t, x, "0.-1 now 0")
	}
}

// TestMostIsHeld: so many states are there at most, and so many there can be.
func TestMostIsHeld(t *testing.T) {
	for most := 1; most <= api.MaxUndo; most++ {
		x := tree(t, most)
		for n := 1; n <= most+3; n++ {
			add(t, x, by(n))
			if many := len(x.States()); many != min(n+1, most) {
				t.Fatalf("of most %d there are %d behind %d Adds", most, many, n)
			}
		}
	}
}

// TestTwoTrees: they have nothing to do with one another.
func TestTwoTrees(t *testing.T) {
	x, y := tree(t, 3), tree(t, 3)
	lines := []api.Delta{one(0, "a", "b")}
	x.Add(lines)
	check(t, y, "0.-1 now 0")
	if seq := y.Add(lines); seq != 1 {
		t.Errorf("Add: %d, want 1", seq)
	}
	y.Undo()
	y.Add(lines)
	check(t, x, "0.-1 1.0 now 1")
	check(t, y, "0.-1 1.0 2.0 now 2")
	a, _ := x.Undo()
	b, _ := y.Undo()
	a[0].Old[0], a[0].New[0] = "c", "d"
	if is := row(b); is != `0["b"]["a"]` {
		t.Errorf("of the other one came %s", is)
	}
	leads(t, x, 1, `0["a"]["b"]`)(x.Redo())
	leads(t, y, 2, `0["a"]["b"]`)(y.Redo())
}
