package undo_test

import (
	"testing"

	"emendator/api"
)

// TestAddInARow: each is made from the one ahead of it, is NOW, and has the next number.
func TestAddInARow(t *testing.T) {
	x := tree(t, 200)
	adds(t, x, 1, 1)
	check(t, x, "0.-1 1.0 now 1")
	adds(t, x, 2, 4)
	check(t, x, "0.-1 1.0 2.1 3.2 4.3 now 4")
}

// TestAddBranches: it is made from NOW, whichever that is; the number is the next of all, not the next one there.
func TestAddBranches(t *testing.T) {
	x := tree(t, 200)
	adds(t, x, 1, 2)
	leads(t, x, 1, ways(-2))(x.Undo())
	adds(t, x, 3, 4)
	check(t, x, "0.-1 1.0 2.1 3.1 4.3 now 4")
	leads(t, x, 0, ways(-4, -3, -1))(x.Go(0))
	adds(t, x, 5, 5)
	leads(t, x, 2, ways(-5, 1, 2))(x.Go(2))
	adds(t, x, 6, 6)
	check(t, x, "0.-1 1.0 2.1 3.1 4.3 5.0 6.2 now 6")
}

// TestAddIsWayOn: of that from which it was made, whichever it was ahead of it.
func TestAddIsWayOn(t *testing.T) {
	x := tree(t, 200)
	for n := 1; n <= 5; n++ {
		adds(t, x, n, n)
		leads(t, x, n, end)(x.Redo())
		leads(t, x, 0, ways(-n))(x.Undo())
		leads(t, x, n, ways(n))(x.Redo())
		leads(t, x, 0, ways(-n))(x.Undo())
	}
	check(t, x, "0.-1 1.0 2.0 3.0 4.0 5.0 now 0")
}

// TestAddNoChanges: a state by no changes at all is one, too.
func TestAddNoChanges(t *testing.T) {
	x := tree(t, 200)
	for n, l := range [][]api.Delta{nil, {}, {{}}} {
		if seq := add(t, x, l...); seq != n+1 {
			t.Errorf("Add: %d, want %d", seq, n+1)
		}
	}
	check(t, x, "0.-1 1.0 2.1 3.2 now 3")
	leads(t, x, 2, `0[][]`)(x.Undo())
	leads(t, x, 1, ``)(x.Undo())
	leads(t, x, 0, ``)(x.Undo())
	leads(t, x, 3, `0[][]`)(x.Go(3))
	leads(t, x, 1, `0[][]`)(x.Go(1))
	leads(t, x, 2, ``)(x.Redo())
}

// TestAddManyChanges: they are told in their order, or turned, the last one first.
func TestAddManyChanges(t *testing.T) {
	x := tree(t, 200)
	add(t, x, one(1, "a", "b"), one(2, "c", "d"), api.Delta{At: 3, New: []string{"e", "f"}})
	add(t, x, api.Delta{At: 4, Old: []string{"\x00", "\xff\n"}}, one(5, "", "g"))
	leads(t, x, 1, `5["g"][""] 4[]["\x00" "\xff\n"]`)(x.Undo())
	leads(t, x, 0, `3["e" "f"][] 2["d"]["c"] 1["b"]["a"]`)(x.Undo())
	leads(t, x, 1, `1["a"]["b"] 2["c"]["d"] 3[]["e" "f"]`)(x.Redo())
	leads(t, x, 2, `4["\x00" "\xff\n"][] 5[""]["g"]`)(x.Redo())
	leads(t, x, 0, `5["g"][""] 4[]["\x00" "\xff\n"] 3["e" "f"][] 2["d"]["c"] 1["b"]["a"]`)(x.Go(0))
	leads(t, x, 2, `1["a"]["b"] 2["c"]["d"] 3[]["e" "f"] 4["\x00" "\xff\n"][] 5[""]["g"]`)(x.Go(2))
}

// TestKeptChangesAreItsOwn: what is handed in is not kept, what is told is not either: written over, each time, they are the same the next time.
func TestKeptChangesAreItsOwn(t *testing.T) {
	x := tree(t, 200)
	adds(t, x, 1, 3)
	for range 3 {
		leads(t, x, 2, ways(-3))(x.Undo())
		leads(t, x, 3, ways(3))(x.Redo())
		leads(t, x, 0, ways(-3, -2, -1))(x.Go(0))
		leads(t, x, 3, ways(1, 2, 3))(x.Go(3))
		leads(t, x, 1, ways(-3, -2))(x.Earlier(2))
		leads(t, x, 3, ways(2, 3))(x.Later(2))
	}
}

// TestAddOfWhatWasTold: what came out is handed in again.
func TestAddOfWhatWasTold(t *testing.T) {
	x := tree(t, 200)
	adds(t, x, 1, 1)
	l, _ := x.Undo()
	x.Add(l)
	l[0].Old[0] = "z"
	leads(t, x, 0, ways(1))(x.Undo())
	leads(t, x, 2, ways(-1))(x.Redo())
	leads(t, x, 1, ways(1, 1))(x.Go(1))
}

// TestSharedLists: lists that share memory as they come in do not as they come out.
func TestSharedLists(t *testing.T) {
	x := tree(t, 200)
	lines := []string{"x", "y"}
	x.Add([]api.Delta{{At: 1, Old: lines, New: lines}, {At: 2, Old: lines[:1], New: lines[1:]}})
	x.Undo()
	l, _ := x.Redo()
	l[0].Old[1] = "p"
	l[1].Old = append(l[1].Old, "q")
	if is, want := row(l), `1["x" "p"]["x" "y"] 2["x" "q"]["y"]`; is != want {
		t.Errorf("it is %s, want %s", is, want)
	}
	leads(t, x, 0, `2["y"]["x"] 1["x" "y"]["x" "y"]`)(x.Undo())
}

// TestStatesIsNew: what came out once does not change by what is done then.
func TestStatesIsNew(t *testing.T) {
	x := tree(t, 2)
	adds(t, x, 1, 1)
	was := x.States()
	adds(t, x, 2, 5)
	if len(was) != 2 || was[0] != (api.State{Seq: 0, From: -1}) || was[1] != (api.State{Seq: 1, From: 0}) {
		t.Errorf("what came out is %v now", was)
	}
	check(t, x, "4.-1 5.4 now 5")
}
