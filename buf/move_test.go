package buf_test

import (
	"math"
	"slices"
	"strings"
	"testing"

	"emendator/api"
)

// TestMove: lines go up and down, to both ends and between; what is open is one change of all that they pass, and of themselves.
func TestMove(t *testing.T) {
	for _, row := range []struct {
		from, to, behind  int
		lines, delta, set string
	}{
		{1, 1, 2, "b/a/c/d/e", `0["a" "b"]["b" "a"]`, "a2 b1 c3 d4 e5"},
		{1, 1, 5, "b/c/d/e/a", `0["a" "b" "c" "d" "e"]["b" "c" "d" "e" "a"]`, "a5 b1 c2 d3 e4"},
		{5, 5, 0, "e/a/b/c/d", `0["a" "b" "c" "d" "e"]["e" "a" "b" "c" "d"]`, "a2 b3 c4 d5 e1"},
		{5, 5, 3, "a/b/c/e/d", `3["d" "e"]["e" "d"]`, "a1 b2 c3 d5 e4"},
		{1, 2, 3, "c/a/b/d/e", `0["a" "b" "c"]["c" "a" "b"]`, "a2 b3 c1 d4 e5"},
		{2, 3, 0, "b/c/a/d/e", `0["a" "b" "c"]["b" "c" "a"]`, "a3 b1 c2 d4 e5"},
		{2, 3, 4, "a/d/b/c/e", `1["b" "c" "d"]["d" "b" "c"]`, "a1 b3 c4 d2 e5"},
		{2, 3, 5, "a/d/e/b/c", `1["b" "c" "d" "e"]["d" "e" "b" "c"]`, "a1 b4 c5 d2 e3"},
		{4, 5, 1, "a/d/e/b/c", `1["b" "c" "d" "e"]["d" "e" "b" "c"]`, "a1 b4 c5 d2 e3"},
		{2, 5, 0, "b/c/d/e/a", `0["a" "b" "c" "d" "e"]["b" "c" "d" "e" "a"]`, "a5 b1 c2 d3 e4"},
		{1, 4, 5, "e/a/b/c/d", `0["a" "b" "c" "d" "e"]["e" "a" "b" "c" "d"]`, "a2 b3 c4 d5 e1"},
	} {
		b := of(t, "a/b/c/d/e")
		for i := range 5 {
			set(t, b, byte('a'+i), i+1)
		}
		b.Put(4)
		if e := b.Move(row.from, row.to, row.behind); e != api.OK {
			t.Fatalf("Move(%d, %d, %d): error %d", row.from, row.to, row.behind, e)
		}
		check(t, b, row.lines, 4)
		checkOpen(t, b, row.delta)
		checkMarks(t, b, row.set)
		checkStates(t, b, "0.-1 now 0")
	}
}

// answer is what Move answers in a text of so many lines.
func answer(size, from, to, behind int) api.Errno {
	switch {
	case from < 1 || to < from || size < to || behind < 0 || size < behind:
		return api.ErrRange
	case from <= behind && behind <= to-1:
		return api.ErrMove
	}
	return api.OK
}

// moved are lines of which some go behind another one: each is told whether it goes, and where it stands.
func moved(lines []string, from, to, behind int) []string {
	var up, these, down []string
	for i, line := range lines {
		switch n := i + 1; {
		case from <= n && n <= to:
			these = append(these, line)
		case n <= behind:
			up = append(up, line)
		default:
			down = append(down, line)
		}
	}
	return slices.Concat(up, these, down)
}

// TestMoveEach: all numbers within and about texts of up to six lines, held against lists; marks go with their lines.
func TestMoveEach(t *testing.T) {
	far := []int{math.MinInt, -1 << 32, 1 << 32, 1<<32 + 1, math.MaxInt}
	for size := 1; size <= 6; size++ {
		lines := []string{"a", "b", "c", "d", "e", "f"}[:size]
		at := far
		for n := -2; n <= size+2; n++ {
			at = append(at, n)
		}
		for _, from := range at {
			for _, to := range at {
				for _, behind := range at {
					b := open(t, 9, lines...)
					for i, name := range lines {
						set(t, b, name[0], i+1)
					}
					want := answer(size, from, to, behind)
					if want != api.OK || behind == from-1 || behind == to {
						stays(t, b, want, "Move", func() api.Errno { return b.Move(from, to, behind) })
						continue
					}
					goes(t, b.Move(from, to, behind))
					new := moved(lines, from, to, behind)
					check(t, b, strings.Join(new, "/"), 1)
					for i, name := range new {
						if n, e := b.Marks().Get(name[0]); n != i+1 || e != api.OK {
							t.Fatalf("Move(%d, %d, %d): mark %s is %d, want %d", from, to, behind, name, n, i+1)
						}
					}
					first, last := min(from-1, behind), max(to, behind)
					checkOpen(t, b, row([]api.Delta{{At: first, Old: lines[first:last], New: new[first:last]}}))
				}
			}
		}
	}
}

// TestMoveRefused: the range first, then whether they would go among themselves; nothing is changed.
func TestMoveRefused(t *testing.T) {
	b := of(t, "a/b/c/d")
	b.Put(3)
	set(t, b, 'a', 2)
	put(t, b, 1, 1, "x")
	for _, row := range []struct {
		from, to, behind int
		want             api.Errno
	}{
		{0, 1, 3, api.ErrRange}, {-1, 1, 3, api.ErrRange}, {2, 1, 3, api.ErrRange}, {1, 5, 0, api.ErrRange},
		{5, 5, 0, api.ErrRange}, {1, 2, -1, api.ErrRange}, {1, 2, 5, api.ErrRange},
		{0, 3, 1, api.ErrRange}, {1, 5, 3, api.ErrRange}, {4, 2, 3, api.ErrRange},
		{1, 2, 1, api.ErrMove}, {1, 4, 1, api.ErrMove}, {1, 4, 3, api.ErrMove}, {2, 3, 2, api.ErrMove},
		{1, 1, 0, api.OK}, {1, 1, 1, api.OK}, {2, 3, 1, api.OK}, {2, 3, 3, api.OK}, {1, 4, 0, api.OK}, {1, 4, 4, api.OK}, {4, 4, 4, api.OK},
	} {
		stays(t, b, row.want, "Move", func() api.Errno { return b.Move(row.from, row.to, row.behind) })
	}
}

// TestMoveNothing: where nothing moves nothing is open, so there is no state of it.
func TestMoveNothing(t *testing.T) {
	b := of(t, "a/b/c")
	goes(t, b.Move(2, 3, 1))
	goes(t, b.Move(1, 2, 2))
	if seq, is := b.Commit(); seq != 0 || is {
		t.Errorf("Commit: %d, %v", seq, is)
	}
}

// TestMoveLikeLines: it is a change, also of lines that are all the same.
func TestMoveLikeLines(t *testing.T) {
	b := of(t, "a/a/a")
	goes(t, b.Move(1, 1, 3))
	checkOpen(t, b, `0["a" "a" "a"]["a" "a" "a"]`)
	commit(t, b, 1)
}

// TestMoveFull: of a text of 2000 lines.
func TestMoveFull(t *testing.T) {
	b := open(t, 9, many(2000)...)
	set(t, b, 'a', 2000)
	goes(t, b.Move(2000, 2000, 0))
	goes(t, b.Move(2, 1001, 2000))
	want := moved(moved(many(2000), 2000, 2000, 0), 2, 1001, 2000)
	if !slices.Equal(b.Lines(), want) {
		t.Error("the lines are others")
	}
	checkMarks(t, b, "a1")
	commit(t, b, 1)
	goes(t, b.Undo())
	if !slices.Equal(b.Lines(), many(2000)) {
		t.Error("the lines are others behind Undo")
	}
}
