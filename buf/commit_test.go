package buf_test

import (
	"testing"

	"emendator/api"
	"emendator/buf"
)

// nothing says that Commit makes no state.
func nothing(t testing.TB, b *buf.Buf) {
	t.Helper()
	if seq, is := b.Commit(); seq != 0 || is {
		t.Fatalf("Commit: %d, %v, want 0, false", seq, is)
	}
}

// TestCommit: what is open is a state, made from the one that was; nothing is open then, and nothing else changes.
func TestCommit(t *testing.T) {
	b := of(t, "a/b/c")
	set(t, b, 'a', 3)
	b.Put(2)
	put(t, b, 2, 1, "x/y")
	goes(t, b.Move(1, 1, 4))
	checkOpen(t, b, `1["b"]["x" "y"] 0["a" "x" "y" "c"]["x" "y" "c" "a"]`)
	was := seen(t, b)
	commit(t, b, 1)
	was.open, was.states = "", "0.-1 1.0 now 1"
	if is := seen(t, b); !is.same(was) {
		t.Errorf("it is %v, want %v", is, was)
	}
	nothing(t, b)
	if is := seen(t, b); !is.same(was) {
		t.Errorf("behind a Commit of nothing it is %v, want %v", is, was)
	}
	put(t, b, 1, 1, none)
	commit(t, b, 2)
	checkStates(t, b, "0.-1 1.0 2.1 now 2")
}

// TestCommitKeepsChanges: a state has all its changes, in order.
func TestCommitKeepsChanges(t *testing.T) {
	b := of(t, "a/b/c")
	put(t, b, 1, 0, "x")
	put(t, b, 2, 2, "y")
	goes(t, b.Move(1, 1, 3))
	commit(t, b, 1)
	l, e := b.States().Undo()
	if e != api.OK || row(l) != `0["y" "c" "x"]["x" "y" "c"] 1["y"]["a" "b"] 0["x"][]` {
		t.Errorf("error %d, %s", e, row(l))
	}
	l, e = b.States().Redo()
	if e != api.OK || row(l) != `0[]["x"] 1["a" "b"]["y"] 0["x" "y" "c"]["y" "c" "x"]` {
		t.Errorf("error %d, %s", e, row(l))
	}
}

// TestCommitOfNothing: no state; what is gone back to is as it is now all the same.
func TestCommitOfNothing(t *testing.T) {
	b := of(t, "a/b/c")
	nothing(t, b)
	checkStates(t, b, "0.-1 now 0")
	b.Put(2)
	set(t, b, 'a', 2)
	nothing(t, b)
	b.Put(3)
	set(t, b, 'a', 3)
	set(t, b, 'b', 1)
	b.Back()
	check(t, b, "a/b/c", 2)
	checkMarks(t, b, "a2")
	checkStates(t, b, "0.-1 now 0")
}

// TestBack: to New's lines, marks and cursor.
func TestBack(t *testing.T) {
	b := of(t, "a/b/c")
	b.Put(2)
	set(t, b, 'a', 2)
	put(t, b, 1, 1, none)
	put(t, b, 2, 1, "x/y")
	goes(t, b.Move(1, 1, 3))
	put(t, b, 1, 3, none)
	b.Back()
	check(t, b, "a/b/c", 1)
	checkMarks(t, b, "")
	checkOpen(t, b, "")
	checkStates(t, b, "0.-1 now 0")
	nothing(t, b)
}

// TestBackToCommit: to the lines, marks and cursor of the last one, not of those ahead of it.
func TestBackToCommit(t *testing.T) {
	b := of(t, "a/b/c/d")
	put(t, b, 1, 1, "x")
	set(t, b, 'a', 4)
	set(t, b, 'b', 2)
	b.Put(3)
	commit(t, b, 1)
	want := seen(t, b)
	for range 3 {
		set(t, b, 'a', 1)
		set(t, b, 'c', 3)
		put(t, b, 2, 3, none)
		b.Back()
		if is := seen(t, b); !is.same(want) {
			t.Fatalf("it is %v, want %v", is, want)
		}
	}
	put(t, b, 2, 1, none)
	b.Put(2)
	commit(t, b, 2)
	b.Put(1)
	put(t, b, 1, 0, "y")
	b.Back()
	check(t, b, "x/c/d", 2)
	checkMarks(t, b, "a3")
}

// TestBackOfNothing: marks and cursor go back, too, where nothing is open.
func TestBackOfNothing(t *testing.T) {
	b := of(t, "a/b/c")
	b.Back()
	check(t, b, "a/b/c", 1)
	b.Put(3)
	set(t, b, 'a', 3)
	b.Back()
	check(t, b, "a/b/c", 1)
	checkMarks(t, b, "")
	set(t, b, 'a', 2)
	b.Put(2)
	put(t, b, 1, 0, "x")
	commit(t, b, 1)
	goes(t, b.Marks().Set('a', 1))
	b.Put(4)
	b.Back()
	check(t, b, "x/a/b/c", 2)
	checkMarks(t, b, "a3")
}

// TestBackTwice: it stays what is gone back to.
func TestBackTwice(t *testing.T) {
	b := of(t, "a/b/c")
	set(t, b, 'a', 2)
	nothing(t, b)
	for range 3 {
		put(t, b, 2, 1, none)
		checkMarks(t, b, "")
		b.Back()
		check(t, b, "a/b/c", 1)
		checkMarks(t, b, "a2")
		b.Back()
		checkMarks(t, b, "a2")
	}
}

// TestBackOfAll: of all lines that were taken out.
func TestBackOfAll(t *testing.T) {
	b := open(t, 9, many(2000)...)
	b.Put(1500)
	set(t, b, 'a', 1700)
	nothing(t, b)
	want := seen(t, b)
	put(t, b, 1, 2000, none)
	check(t, b, "", 1)
	b.Back()
	if is := seen(t, b); !is.same(want) {
		t.Errorf("it is %v, want %v", is, want)
	}
}

// TestMarksStay: the marks that were handed out are the text's, whatever is done then.
func TestMarksStay(t *testing.T) {
	b := of(t, "a/b/c")
	m, s := b.Marks(), b.States()
	goes(t, m.Set('a', 2))
	checkMarks(t, b, "a2")
	put(t, b, 1, 0, "x")
	commit(t, b, 1)
	put(t, b, 1, 0, "y")
	b.Back()
	goes(t, m.Set('b', 1))
	checkMarks(t, b, "a3 b1")
	goes(t, b.Undo())
	goes(t, m.Set('c', 3))
	checkMarks(t, b, "a2 c3")
	if b.Marks() != m || b.States() != s || s.Now() != 0 {
		t.Error("the marks or the states are others")
	}
}
