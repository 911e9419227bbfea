package buf_test

import (
	"math"
	"slices"
	"testing"

	"emendator/api"
	"emendator/buf"
)

// TestNew: these lines, the cursor 1, no marks, nothing open, the first state.
func TestNew(t *testing.T) {
	for _, lines := range [][]string{{"a"}, {""}, {"", ""}, {"a", "b", "c"}, {"\x00", "a\nb", "\xff\xfe", "é"}, many(100), many(2000)} {
		b := open(t, 9, lines...)
		want := view{lines: lines, at: 1, states: "0.-1 now 0"}
		if is := seen(t, b); !is.same(want) {
			t.Errorf("New: %v, want %v", is, want)
		}
	}
}

// TestNewNoLines: a text has a line at least.
func TestNewNoLines(t *testing.T) {
	for _, lines := range [][]string{nil, {}} {
		b := open(t, 9, lines...)
		check(t, b, "", 1)
		checkOpen(t, b, "")
		checkStates(t, b, "0.-1 now 0")
	}
}

func refusedNew(t testing.TB, lines []string, states int, want api.Errno) {
	t.Helper()
	handed(t, lines, func(lines []string) {
		if b, e := buf.New(lines, states); e != want || b != nil {
			t.Errorf("New of %d lines, %d states: error %d, %v, want %d", len(lines), states, e, b, want)
		}
	})
}

// TestNewStates: 1 to 200 may be there.
func TestNewStates(t *testing.T) {
	for _, states := range []int{math.MinInt, -200, -1, 0, 201, 202, 257, 1 << 32, 1<<32 + 1, math.MaxInt} {
		refusedNew(t, []string{"a"}, states, api.ErrArg)
		refusedNew(t, nil, states, api.ErrArg)
	}
	for _, states := range []int{1, 2, 199, 200} {
		b := open(t, states, "a")
		for n := 1; n <= states+2; n++ {
			put(t, b, 1, 1, "b")
			commit(t, b, n)
			if is := len(b.States().States()); is != min(n+1, states) {
				t.Fatalf("of %d states there are %d behind %d", states, is, n)
			}
		}
	}
}

// TestNewLimits: 2000 lines, 1000 bytes each, wherever the one that is longer stands.
func TestNewLimits(t *testing.T) {
	refusedNew(t, many(2001), 9, api.ErrLimit)
	refusedNew(t, many(4000), 9, api.ErrLimit)
	full := slices.Repeat([]string{long(1000)}, 2000)
	b := open(t, 9, full...)
	if !slices.Equal(b.Lines(), full) {
		t.Error("a full text is another one")
	}
	for _, at := range []int{0, 1, 1000, 1999} {
		one := slices.Clone(full)
		one[at] = long(1001)
		refusedNew(t, one, 9, api.ErrLong)
	}
	refusedNew(t, []string{long(1001)}, 9, api.ErrLong)
	refusedNew(t, []string{"a", long(100000)}, 9, api.ErrLong)
}

// TestNewErrorsInOrder: states first, then how many lines, then how long they are.
func TestNewErrorsInOrder(t *testing.T) {
	tooMuch := append(many(2000), long(1001))
	refusedNew(t, tooMuch, 0, api.ErrArg)
	refusedNew(t, tooMuch[1:], 201, api.ErrArg)
	refusedNew(t, tooMuch, 1, api.ErrLimit)
	refusedNew(t, tooMuch[1:], 200, api.ErrLong)
}

// TestLine: there is none beyond both ends.
func TestLine(t *testing.T) {
	b := of(t, "a/b/c")
	for n, want := range map[int]string{1: "a", 2: "b", 3: "c"} {
		if is, there := b.Line(n); is != want || !there {
			t.Errorf("Line(%d): %q, %v, want %q", n, is, there, want)
		}
	}
	for _, n := range []int{math.MinInt, math.MinInt + 1, -1, 0, 4, 5, 1 << 32, 1<<32 + 1, math.MaxInt} {
		if is, there := b.Line(n); is != "" || there {
			t.Errorf("Line(%d): %q, %v", n, is, there)
		}
	}
}

// TestPut: the line, or the nearest one that is there; nothing else changes.
func TestPut(t *testing.T) {
	b := of(t, "a/b/c")
	set(t, b, 'a', 2)
	was := seen(t, b)
	for _, row := range []struct{ n, at int }{
		{2, 2}, {3, 3}, {4, 3}, {5, 3}, {1, 1}, {3, 3}, {0, 1}, {-1, 1}, {math.MaxInt, 3}, {math.MinInt, 1}, {1<<32 + 2, 3}, {-1 << 32, 1},
	} {
		b.Put(row.n)
		was.at = row.at
		if is := seen(t, b); !is.same(was) {
			t.Errorf("Put(%d): %v, want %v", row.n, is, was)
		}
	}
	one := of(t, "")
	for n := -2; n <= 3; n++ {
		one.Put(n)
		check(t, one, "", 1)
	}
}
