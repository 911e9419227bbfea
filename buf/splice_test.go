package buf_test

import (
	"math"
	"slices"
	"strings"
	"testing"

	"emendator/api"
)

// TestSplice: lines in the place of others, at both ends and between; what is open then.
func TestSplice(t *testing.T) {
	for _, row := range []struct {
		line, n           int
		put, lines, delta string
	}{
		{1, 0, "x", "x/a/b/c", `0[]["x"]`},
		{2, 0, "x/y", "a/x/y/b/c", `1[]["x" "y"]`},
		{3, 0, "", "a/b//c", `2[][""]`},
		{4, 0, "x", "a/b/c/x", `3[]["x"]`},
		{4, 0, "x/y/z", "a/b/c/x/y/z", `3[]["x" "y" "z"]`},
		{1, 1, "x", "x/b/c", `0["a"]["x"]`},
		{2, 1, "x/y", "a/x/y/c", `1["b"]["x" "y"]`},
		{3, 1, "x", "a/b/x", `2["c"]["x"]`},
		{1, 1, none, "b/c", `0["a"][]`},
		{2, 1, none, "a/c", `1["b"][]`},
		{3, 1, none, "a/b", `2["c"][]`},
		{1, 2, none, "c", `0["a" "b"][]`},
		{2, 2, none, "a", `1["b" "c"][]`},
		{2, 2, "x", "a/x", `1["b" "c"]["x"]`},
		{1, 3, "x", "x", `0["a" "b" "c"]["x"]`},
		{1, 3, "", "", `0["a" "b" "c"][""]`},
		{1, 3, "x/y/z/w", "x/y/z/w", `0["a" "b" "c"]["x" "y" "z" "w"]`},
		{2, 1, "b", "a/b/c", `1["b"]["b"]`},
		{1, 3, "a/b/c", "a/b/c", `0["a" "b" "c"]["a" "b" "c"]`},
	} {
		b := of(t, "a/b/c")
		put(t, b, row.line, row.n, row.put)
		check(t, b, row.lines, 1)
		checkOpen(t, b, row.delta)
		checkStates(t, b, "0.-1 now 0")
	}
}

// TestSpliceNoLineLeft: one empty line is there then, in the change, too.
func TestSpliceNoLineLeft(t *testing.T) {
	b := of(t, "a/b/c")
	put(t, b, 1, 3, none)
	check(t, b, "", 1)
	checkOpen(t, b, `0["a" "b" "c"][""]`)
	put(t, b, 1, 1, none)
	check(t, b, "", 1)
	checkOpen(t, b, `0["a" "b" "c"][""] 0[""][""]`)
	put(t, b, 1, 0, "x")
	check(t, b, "x/", 1)
	checkOpen(t, b, `0["a" "b" "c"][""] 0[""][""] 0[]["x"]`)
	put(t, b, 2, 1, none)
	check(t, b, "x", 1)
	checkOpen(t, b, `0["a" "b" "c"][""] 0[""][""] 0[]["x"] 1[""][]`)

	one := of(t, "a")
	put(t, one, 1, 1, none)
	check(t, one, "", 1)
	checkOpen(t, one, `0["a"][""]`)
}

// TestSpliceNothing: no lines in the place of no lines change nothing, and add nothing to what is open.
func TestSpliceNothing(t *testing.T) {
	b := of(t, "a/b/c")
	b.Put(3)
	set(t, b, 'a', 3)
	nothing := func() {
		t.Helper()
		for line := 1; line <= b.Len()+1; line++ {
			for _, no := range [][]string{nil, {}} {
				stays(t, b, api.OK, "Splice of nothing", func() api.Errno { return splice(t, b, line, 0, no) })
			}
		}
	}
	nothing()
	if seq, is := b.Commit(); seq != 0 || is {
		t.Errorf("Commit: %d, %v", seq, is)
	}
	put(t, b, 2, 1, "x/y")
	nothing()
	checkOpen(t, b, `1["b"]["x" "y"]`)
	full := open(t, 9, many(2000)...)
	stays(t, full, api.OK, "Splice of nothing", func() api.Errno { return full.Splice(2001, 0, nil) })
}

// TestSpliceOpens: each change stands behind those that are open.
func TestSpliceOpens(t *testing.T) {
	b := of(t, "a/b/c")
	put(t, b, 2, 1, "x/y")
	put(t, b, 2, 1, none)
	put(t, b, 4, 0, "z")
	check(t, b, "a/y/c/z", 1)
	checkOpen(t, b, `1["b"]["x" "y"] 1["x"][] 3[]["z"]`)
}

// TestSpliceRange: line is 1 to Len and 1, n 0 to what is left; what is refused changes nothing.
func TestSpliceRange(t *testing.T) {
	far := []int{math.MinInt, math.MinInt + 1, -1 << 32, 1 << 32, 1<<32 + 1, math.MaxInt - 1, math.MaxInt}
	for size := 1; size <= 4; size++ {
		lines := []string{"a", "b", "c", "d"}[:size]
		at := far
		for n := -2; n <= size+3; n++ {
			at = append(at, n)
		}
		for _, line := range at {
			for _, n := range at {
				if 1 <= line && line <= size+1 && 0 <= n && n <= size+1-line {
					continue
				}
				for _, new := range [][]string{nil, {"x"}, {long(1001)}} {
					b := open(t, 9, lines...)
					b.Put(2)
					set(t, b, 'a', 2)
					put(t, b, 1, 1, "y")
					stays(t, b, api.ErrRange, "Splice", func() api.Errno { return splice(t, b, line, n, new) })
				}
			}
		}
	}
}

// TestSpliceEach: all that is not refused, of texts of up to five lines, held against lists.
func TestSpliceEach(t *testing.T) {
	for size := 1; size <= 5; size++ {
		lines := []string{"a", "b", "c", "d", "e"}[:size]
		for line := 1; line <= size+1; line++ {
			for n := 0; n <= size-line+1; n++ {
				for k := range 4 {
					new := []string{"x", "y", "z"}[:k]
					b := open(t, 9, lines...)
					if e := splice(t, b, line, n, new); e != api.OK {
						t.Fatalf("Splice(%d, %d) of %d: error %d", line, n, size, e)
					}
					want := slices.Concat(lines[:line-1], new, lines[line-1+n:])
					if len(want) == 0 {
						want = []string{""}
					}
					check(t, b, strings.Join(want, "/"), 1)
				}
			}
		}
	}
}

// TestSpliceLimits: 2000 lines there may be then, of 1000 bytes each.
func TestSpliceLimits(t *testing.T) {
	b := open(t, 9, many(1999)...)
	refuse := func(want api.Errno, line, n int, lines []string) {
		t.Helper()
		stays(t, b, want, "Splice", func() api.Errno { return splice(t, b, line, n, lines) })
	}
	refuse(api.ErrLimit, 1, 0, many(2))
	refuse(api.ErrLimit, 2000, 0, many(2))
	refuse(api.ErrLimit, 1000, 1, many(3))
	refuse(api.ErrLimit, 1, 1999, many(2001))
	refuse(api.ErrLong, 1, 0, []string{long(1001)})
	refuse(api.ErrLong, 1, 2, []string{long(1000), long(1001)})
	refuse(api.ErrLong, 1, 3, []string{"a", long(1001), "b"})
	refuse(api.ErrLong, 1, 1999, []string{long(5000)})
	put(t, b, 2000, 0, long(1000))
	if b.Len() != 2000 {
		t.Fatalf("Len is %d", b.Len())
	}
	refuse(api.ErrLimit, 1, 0, many(1))
	refuse(api.ErrLimit, 2001, 0, many(1))
	refuse(api.ErrLimit, 5, 3, many(4))
	goes(t, splice(t, b, 5, 3, many(3)))
	goes(t, splice(t, b, 1, 2000, slices.Repeat([]string{long(1000)}, 2000)))
	goes(t, splice(t, b, 1, 2000, nil))
	goes(t, splice(t, b, 1, 1, many(2000)))
	if !slices.Equal(b.Lines(), many(2000)) {
		t.Error("a full text is another one")
	}
}

// TestSpliceErrorsInOrder: the range first, then how many lines, then how long they are.
func TestSpliceErrorsInOrder(t *testing.T) {
	b := open(t, 9, many(2000)...)
	tooMuch := []string{long(1001), "a"}
	for _, row := range []struct {
		line, n int
		want    api.Errno
	}{
		{0, 0, api.ErrRange}, {2002, 0, api.ErrRange}, {2000, 2, api.ErrRange}, {1, -1, api.ErrRange},
		{1, 0, api.ErrLimit}, {2001, 0, api.ErrLimit}, {2000, 1, api.ErrLimit},
		{1, 2, api.ErrLong}, {1999, 2, api.ErrLong},
	} {
		stays(t, b, row.want, "Splice", func() api.Errno { return splice(t, b, row.line, row.n, tooMuch) })
	}
}

// TestSpliceMarks: they go where their lines go; those of lines that are gone are gone, but where others stand in their place.
func TestSpliceMarks(t *testing.T) {
	for _, row := range []struct {
		line, n int
		put     string
		want    string
	}{
		{1, 0, "x", "a2 b3 c4 d5 e6"},
		{3, 0, "x/y", "a1 b2 c5 d6 e7"},
		{5, 0, "x", "a1 b2 c3 d4 e6"},
		{2, 1, "x", "a1 b2 c3 d4 e5"},
		{2, 1, "x/y/z", "a1 b2 c5 d6 e7"},
		{2, 1, none, "a1 c2 d3 e4"},
		{2, 3, "x", "a1 b2 e3"},
		{1, 3, none, "d1 e2"},
		{1, 4, "x/y", "a1 b2 e3"},
		{1, 4, "", "a1 e2"},
		{1, 4, none, "a1 e2"},
	} {
		b := of(t, "p/q/r/s")
		for i := range 5 {
			set(t, b, byte('a'+i), i+1)
		}
		put(t, b, row.line, row.n, row.put)
		checkMarks(t, b, row.want)
	}
}

// TestSpliceCursor: its number stays, but where there is no such line any more.
func TestSpliceCursor(t *testing.T) {
	for _, row := range []struct {
		at, line, n int
		put         string
		want        int
	}{
		{2, 1, 0, "x/y", 2},
		{4, 1, 0, "x/y", 4},
		{4, 5, 0, "x", 4},
		{4, 4, 1, "x", 4},
		{4, 4, 1, none, 3},
		{4, 1, 1, none, 3},
		{3, 1, 1, none, 3},
		{4, 1, 3, none, 1},
		{4, 2, 3, "x", 2},
		{2, 2, 3, "x", 2},
		{3, 2, 3, none, 1},
		{4, 1, 4, none, 1},
		{4, 1, 4, "x/y", 2},
		{1, 1, 4, "x/y", 1},
	} {
		b := of(t, "p/q/r/s")
		b.Put(row.at)
		put(t, b, row.line, row.n, row.put)
		if is := b.Cursor(); is != row.want {
			t.Errorf("the cursor was %d, Splice(%d, %d, %q): %d, want %d", row.at, row.line, row.n, row.put, is, row.want)
		}
	}
}
