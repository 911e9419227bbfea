package buf_test

import (
	"testing"

	"emendator/api"
	"emendator/buf"
)

// TestHandedIn: lines are not kept: written over by whoever handed them in, they are what they were, in the text, in what is open, in its states, and in what is gone back to.
func TestHandedIn(t *testing.T) {
	first, new := []string{"a", "b", "c"}, []string{"x", "y"}
	b, e := buf.New(first, 9)
	goes(t, e)
	overLines(first)
	check(t, b, "a/b/c", 1)
	goes(t, b.Splice(2, 1, new))
	overLines(new)
	check(t, b, "a/x/y/c", 1)
	checkOpen(t, b, `1["b"]["x" "y"]`)
	b.Back()
	check(t, b, "a/b/c", 1)
	new = []string{"x", "y"}
	goes(t, b.Splice(2, 1, new))
	commit(t, b, 1)
	overLines(new)
	goes(t, b.Undo())
	check(t, b, "a/b/c", 2)
	goes(t, b.Redo())
	check(t, b, "a/x/y/c", 2)
}

// TestHandedOut: what came out is written over: it was not what is kept.
func TestHandedOut(t *testing.T) {
	b := of(t, "a/b/c")
	put(t, b, 2, 1, "x/y")
	goes(t, b.Move(1, 2, 3))
	over(b.Open())
	overLines(b.Lines())
	check(t, b, "y/a/x/c", 1)
	checkOpen(t, b, `1["b"]["x" "y"] 0["a" "x" "y"]["y" "a" "x"]`)
	l := b.Open()
	commit(t, b, 1)
	over(l)
	goes(t, b.Undo())
	check(t, b, "a/b/c", 2)
	goes(t, b.Redo())
	check(t, b, "y/a/x/c", 1)
	l, e := b.States().Undo()
	goes(t, e)
	over(l)
	l, e = b.States().Redo()
	goes(t, e)
	over(l)
	goes(t, b.Undo())
	check(t, b, "a/b/c", 2)
}

// TestHandedOutIsNew: what came out once does not change by what is done then.
func TestHandedOutIsNew(t *testing.T) {
	b := of(t, "a/b/c")
	put(t, b, 2, 1, "x/y")
	lines, l := b.Lines(), b.Open()
	put(t, b, 1, 2, "p/q/r")
	goes(t, b.Move(1, 1, 3))
	b.Back()
	put(t, b, 1, 3, "s")
	commit(t, b, 1)
	if len(lines) != 4 || lines[0] != "a" || lines[1] != "x" || lines[2] != "y" || lines[3] != "c" {
		t.Errorf("lines are %q now", lines)
	}
	if is := row(l); is != `1["b"]["x" "y"]` {
		t.Errorf("what was open is %s now", is)
	}
}

// TestListsOfOneAnswer share no memory: one is added to, the other stays.
func TestListsOfOneAnswer(t *testing.T) {
	b := of(t, "a/b/c")
	goes(t, b.Move(1, 1, 3))
	put(t, b, 1, 1, "x")
	l := b.Open()
	for i := range l {
		l[i].Old = append(l[i].Old, gone)
		l[i].New = append(l[i].New, lies)
		overLines(l[i].Old[:1])
	}
	if is := row(l[1:]); is != `0["written over" "written over"]["x" "lies behind"]` {
		t.Errorf("it is %s", is)
	}
	checkOpen(t, b, `0["a" "b" "c"]["b" "c" "a"] 0["b"]["x"]`)
}

// TestTwoTexts: they have nothing to do with one another.
func TestTwoTexts(t *testing.T) {
	lines := []string{"a", "b", "c"}
	one, e := buf.New(lines, 9)
	goes(t, e)
	two, e := buf.New(lines, 9)
	goes(t, e)
	want := seen(t, two)
	same := func() {
		t.Helper()
		if is := seen(t, two); !is.same(want) {
			t.Fatalf("the other one is %v, was %v", is, want)
		}
	}
	set(t, one, 'a', 2)
	one.Put(3)
	goes(t, one.Splice(1, 1, lines))
	same()
	goes(t, one.Move(1, 1, 3))
	commit(t, one, 1)
	same()
	goes(t, one.Undo())
	one.Back()
	same()
	goes(t, two.Splice(2, 1, lines[:2]))
	commit(t, two, 1)
	check(t, one, "a/b/c", 1)
	checkStates(t, one, "0.-1 1.0 now 0")
	goes(t, one.Redo())
	check(t, one, "b/c/a/b/c", 1)
	check(t, two, "a/a/b/c", 1)
	checkStates(t, two, "0.-1 1.0 now 1")
}

// TestFromOneToAnother: what one text tells is handed to another one.
func TestFromOneToAnother(t *testing.T) {
	one := of(t, "a/b/c")
	lines := one.Lines()
	two, e := buf.New(lines, 9)
	goes(t, e)
	goes(t, two.Splice(4, 0, lines))
	goes(t, one.Splice(1, 0, two.Lines()))
	overLines(lines)
	check(t, two, "a/b/c/a/b/c", 1)
	check(t, one, "a/b/c/a/b/c/a/b/c", 1)
	goes(t, one.Splice(1, 9, one.Lines()))
	check(t, one, "a/b/c/a/b/c/a/b/c", 1)
	for _, d := range two.Open() {
		goes(t, one.Splice(d.At+1, len(d.Old), d.New))
	}
	check(t, one, "a/b/c/a/b/c/a/b/c/a/b/c", 1)
}

// TestErrors: their numbers are the chapter's.
func TestErrors(t *testing.T) {
	b := of(t, "a/b")
	for want, is := range map[api.Errno]api.Errno{
		1:   func() api.Errno { _, e := buf.New(nil, 0); return e }(),
		3:   b.Splice(1, 0, make([]string, 1999)),
		90:  b.Splice(1, 0, []string{long(1001)}),
		120: b.Go(1),
		121: b.Undo(),
		140: b.Splice(4, 0, nil),
		160: b.Move(1, 2, 1),
	} {
		if is != want {
			t.Errorf("error %d, want %d", is, want)
		}
	}
}
