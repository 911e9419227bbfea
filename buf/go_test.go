package buf_test

import (
	"math"
	"testing"

	"emendator/api"
	"emendator/buf"
)

// TestExample: the chapter's.
func TestExample(t *testing.T) {
	b := of(t, "a/b/c")
	put(t, b, 2, 1, "x/y")
	commit(t, b, 1)
	check(t, b, "a/x/y/c", 1)
	goes(t, b.Undo())
	check(t, b, "a/b/c", 2)
}

// three is a text with three states behind the first, the last two made from the same one.
func three(t testing.TB) *buf.Buf {
	t.Helper()
	b := of(t, "a/b/c")
	put(t, b, 2, 1, "x/y")
	commit(t, b, 1)
	put(t, b, 4, 1, none)
	put(t, b, 1, 0, "z")
	commit(t, b, 2)
	goes(t, b.Undo())
	goes(t, b.Move(1, 1, 4))
	commit(t, b, 3)
	check(t, b, "x/y/c/a", 4)
	checkStates(t, b, "0.-1 1.0 2.1 3.1 now 3")
	return b
}

// The lines of three's states.
var texts = [...]string{"a/b/c", "a/x/y/c", "z/a/x/y", "x/y/c/a"}

// TestUndoRedo: to and fro; the cursor is in the line of the last change.
func TestUndoRedo(t *testing.T) {
	b := three(t)
	for range 2 {
		goes(t, b.Undo())
		check(t, b, texts[1], 1)
		goes(t, b.Undo())
		check(t, b, texts[0], 2)
		stays(t, b, api.ErrUndoEnd, "Undo", b.Undo)
		goes(t, b.Redo())
		check(t, b, texts[1], 2)
		goes(t, b.Redo())
		check(t, b, texts[3], 1)
		stays(t, b, api.ErrUndoEnd, "Redo", b.Redo)
	}
	checkStates(t, b, "0.-1 1.0 2.1 3.1 now 3")
	checkOpen(t, b, "")
}

// TestGo: from each state to each; where the cursor is then.
func TestGo(t *testing.T) {
	at := [4][4]int{
		{4, 2, 1, 1},
		{2, 4, 1, 1},
		{2, 4, 4, 1},
		{2, 1, 1, 4},
	}
	for from := range texts {
		for to := range texts {
			b := three(t)
			goes(t, b.Go(from))
			b.Put(4)
			goes(t, b.Go(to))
			want := at[from][to]
			if to == 0 {
				want = min(want, 3)
			}
			check(t, b, texts[to], want)
			if b.States().Now() != to {
				t.Errorf("Go(%d): the state is %d", to, b.States().Now())
			}
			checkStates(t, b, "0.-1 1.0 2.1 3.1 now "+string(rune('0'+to)))
			checkOpen(t, b, "")
		}
	}
}

// TestGoLaysTheWay: Redo goes where Go came down.
func TestGoLaysTheWay(t *testing.T) {
	b := three(t)
	goes(t, b.Go(2))
	goes(t, b.Go(0))
	goes(t, b.Redo())
	goes(t, b.Redo())
	check(t, b, texts[2], 1)
}

// TestEarlierLater: by their numbers, whatever they were made from; beyond the last of them there is none.
func TestEarlierLater(t *testing.T) {
	b := three(t)
	goes(t, b.Earlier(1))
	check(t, b, texts[2], 1)
	goes(t, b.Earlier(2))
	check(t, b, texts[0], 2)
	stays(t, b, api.ErrUndoEnd, "Earlier", func() api.Errno { return b.Earlier(1) })
	goes(t, b.Later(2))
	check(t, b, texts[2], 1)
	goes(t, b.Later(1))
	check(t, b, texts[3], 1)
	stays(t, b, api.ErrUndoEnd, "Later", func() api.Errno { return b.Later(1) })
	goes(t, b.Earlier(math.MaxInt))
	check(t, b, texts[0], 2)
	goes(t, b.Later(1000))
	check(t, b, texts[3], 1)
	for _, n := range []int{0, -1, math.MinInt} {
		stays(t, b, api.ErrArg, "Earlier", func() api.Errno { return b.Earlier(n) })
		stays(t, b, api.ErrArg, "Later", func() api.Errno { return b.Later(n) })
	}
}

// TestGoNone: a state that is not there, or not there any more.
func TestGoNone(t *testing.T) {
	b := three(t)
	for _, seq := range []int{4, -1, math.MinInt, math.MaxInt, 1 << 32} {
		stays(t, b, api.ErrUndoNone, "Go", func() api.Errno { return b.Go(seq) })
	}
	two := open(t, 2, "a", "b")
	for n := 1; n <= 3; n++ {
		put(t, two, 1, 0, "x")
		commit(t, two, n)
	}
	checkStates(t, two, "2.-1 3.2 now 3")
	stays(t, two, api.ErrUndoNone, "Go", func() api.Errno { return two.Go(1) })
	goes(t, two.Undo())
	check(t, two, "x/x/a/b", 1)
	stays(t, two, api.ErrUndoEnd, "Undo", two.Undo)
	one := open(t, 1, "a")
	put(t, one, 1, 1, "b")
	commit(t, one, 1)
	stays(t, one, api.ErrUndoEnd, "Undo", one.Undo)
	check(t, one, "b", 1)
}

// calls are those that go to another state, each as it is refused in a text of one state, and how.
func calls(b *buf.Buf) map[string]struct {
	do   func() api.Errno
	want api.Errno
} {
	type call = struct {
		do   func() api.Errno
		want api.Errno
	}
	return map[string]call{
		"Undo":       {b.Undo, api.ErrUndoEnd},
		"Redo":       {b.Redo, api.ErrUndoEnd},
		"Go 7":       {func() api.Errno { return b.Go(7) }, api.ErrUndoNone},
		"Go -1":      {func() api.Errno { return b.Go(-1) }, api.ErrUndoNone},
		"Earlier 1":  {func() api.Errno { return b.Earlier(1) }, api.ErrUndoEnd},
		"Earlier 0":  {func() api.Errno { return b.Earlier(0) }, api.ErrArg},
		"Earlier -1": {func() api.Errno { return b.Earlier(-1) }, api.ErrArg},
		"Later 1":    {func() api.Errno { return b.Later(1) }, api.ErrUndoEnd},
		"Later 0":    {func() api.Errno { return b.Later(0) }, api.ErrArg},
	}
}

// TestRefusedWhileOpen: what is open goes back first, then it is refused.
func TestRefusedWhileOpen(t *testing.T) {
	for name := range calls(of(t, "a")) {
		b := of(t, "a/b/c")
		b.Put(2)
		set(t, b, 'a', 3)
		nothing(t, b)
		want := seen(t, b)
		b.Put(3)
		set(t, b, 'b', 1)
		put(t, b, 1, 2, "x")
		call := calls(b)[name]
		if e := call.do(); e != call.want {
			t.Errorf("%s: error %d, want %d", name, e, call.want)
		}
		if is := seen(t, b); !is.same(want) {
			t.Errorf("%s: it is %v, want %v", name, is, want)
		}
		nothing(t, b)
	}
}

// TestRefusedWhileNotOpen: nothing goes back, for nothing is open: marks that were set and the cursor stay.
func TestRefusedWhileNotOpen(t *testing.T) {
	for name := range calls(of(t, "a")) {
		b := of(t, "a/b/c")
		b.Put(2)
		set(t, b, 'a', 3)
		call := calls(b)[name]
		stays(t, b, call.want, name, call.do)
		b.Back()
		check(t, b, "a/b/c", 1)
		checkMarks(t, b, "")
	}
}

// TestGoneWhileOpen: what is open goes back first; it is in no state.
func TestGoneWhileOpen(t *testing.T) {
	for name, do := range map[string]func(b *buf.Buf) api.Errno{
		"Undo":    (*buf.Buf).Undo,
		"Go":      func(b *buf.Buf) api.Errno { return b.Go(1) },
		"Earlier": func(b *buf.Buf) api.Errno { return b.Earlier(2) },
	} {
		b := three(t)
		b.Put(2)
		set(t, b, 'a', 4)
		nothing(t, b)
		put(t, b, 1, 4, none)
		set(t, b, 'b', 1)
		if e := do(b); e != api.OK {
			t.Fatalf("%s: error %d", name, e)
		}
		check(t, b, texts[1], 1)
		checkMarks(t, b, "a4")
		checkOpen(t, b, "")
		checkStates(t, b, "0.-1 1.0 2.1 3.1 now 1")
	}
	b := three(t)
	goes(t, b.Undo())
	put(t, b, 2, 2, "q")
	goes(t, b.Redo())
	check(t, b, texts[3], 1)
	goes(t, b.Go(0))
	put(t, b, 2, 2, "q")
	goes(t, b.Later(2))
	check(t, b, texts[2], 1)
}

// TestGoToSame: no changes: what is open goes back; else all stays, the cursor with it.
func TestGoToSame(t *testing.T) {
	b := three(t)
	b.Put(2)
	set(t, b, 'a', 1)
	stays(t, b, api.OK, "Go", func() api.Errno { return b.Go(3) })
	nothing(t, b)
	want := seen(t, b)
	b.Put(1)
	put(t, b, 1, 1, none)
	goes(t, b.Go(3))
	if is := seen(t, b); !is.same(want) {
		t.Errorf("it is %v, want %v", is, want)
	}
}

// TestStateOfNoChanges: one goes to it and from it, and the cursor stays.
func TestStateOfNoChanges(t *testing.T) {
	b := of(t, "a/b/c")
	if seq := b.States().Add(nil); seq != 1 {
		t.Fatalf("Add: %d", seq)
	}
	b.Put(3)
	goes(t, b.Undo())
	check(t, b, "a/b/c", 3)
	b.Put(2)
	goes(t, b.Redo())
	check(t, b, "a/b/c", 2)
	checkStates(t, b, "0.-1 1.0 now 1")
	b.Put(1)
	b.Back()
	check(t, b, "a/b/c", 2)
}

// TestChangeOfStateIsKept: what is gone back to is taken anew.
func TestChangeOfStateIsKept(t *testing.T) {
	b := three(t)
	set(t, b, 'a', 4)
	for _, do := range []func() api.Errno{
		b.Undo, b.Redo,
		func() api.Errno { return b.Go(2) },
		func() api.Errno { return b.Earlier(1) },
		func() api.Errno { return b.Later(9) },
		func() api.Errno { return b.Go(0) },
	} {
		goes(t, do())
		want := seen(t, b)
		b.Put(2)
		set(t, b, 'b', 2)
		put(t, b, 1, 2, "q/q/q/q")
		b.Back()
		if is := seen(t, b); !is.same(want) {
			t.Errorf("it is %v, want %v", is, want)
		}
	}
}

// TestStateMarks: they go with the lines of each change; those of lines that are gone do not come again.
func TestStateMarks(t *testing.T) {
	b := of(t, "a/b/c/d")
	put(t, b, 2, 2, none)
	put(t, b, 1, 0, "x/y")
	commit(t, b, 1)
	check(t, b, "x/y/a/d", 1)
	for i := range 4 {
		set(t, b, byte('a'+i), i+1)
	}
	goes(t, b.Undo())
	check(t, b, "a/b/c/d", 2)
	checkMarks(t, b, "c1 d4")
	goes(t, b.Redo())
	checkMarks(t, b, "c3 d4")
}

// TestMoveMarks: going to a state lines are put in the place of others: a mark does not go with a line that is moved.
func TestMoveMarks(t *testing.T) {
	b := of(t, "a/b/c")
	set(t, b, 'a', 1)
	goes(t, b.Move(1, 1, 3))
	checkMarks(t, b, "a3")
	commit(t, b, 1)
	goes(t, b.Undo())
	check(t, b, "a/b/c", 1)
	checkMarks(t, b, "a3")
	goes(t, b.Redo())
	check(t, b, "b/c/a", 1)
	checkMarks(t, b, "a3")
}

// TestStateCursor: it is put to the line of the last change, or, if there is none, to the last one.
func TestStateCursor(t *testing.T) {
	b := of(t, "a/b/c")
	put(t, b, 4, 0, "d/e")
	commit(t, b, 1)
	goes(t, b.Undo())
	check(t, b, "a/b/c", 3)
	goes(t, b.Redo())
	check(t, b, "a/b/c/d/e", 4)
	put(t, b, 5, 1, none)
	put(t, b, 2, 1, "x")
	commit(t, b, 2)
	goes(t, b.Undo())
	check(t, b, "a/b/c/d/e", 5)
	goes(t, b.Redo())
	check(t, b, "a/x/c/d", 2)
	put(t, b, 1, 4, none)
	commit(t, b, 3)
	goes(t, b.Undo())
	check(t, b, "a/x/c/d", 1)
	b.Put(4)
	goes(t, b.Redo())
	check(t, b, "", 1)
}
