package edit_test

import (
	"math"
	"strings"
	"testing"

	"emendator/api"
)

// others are names of commands that are done elsewhere, and such as no command has.
var others = []string{"s", "g", "v", "norm", "u", "red", "earlier", "later", "&", "&&", "~", "@", "P", "D", "pp", "dd", "put", "print", "delete", "join", "copy", "mark", ">>", "<<", "==", "!", " ", " d", "d ", "d!", "\x00", "\xff", "é", strings.Repeat("d", 5000)}

// all are names of all kinds.
func all() []string { return append(append([]string{}, names...), others...) }

// TestRanges: those that are turned round, or not in the text, whatever the name, and whatever else is wrong.
func TestRanges(t *testing.T) {
	for _, name := range all() {
		for _, r := range [][2]int{{2, 1}, {3, 2}, {3, 1}, {1, 0}, {1, 4}, {3, 4}, {4, 4}, {0, 4}, {-1, 0}, {-1, 2}, {-1, -1}, {-2, -1}, {4, 3}, {1, math.MaxInt}, {math.MaxInt, math.MaxInt}, {math.MinInt, 1}, {math.MinInt, math.MinInt}, {math.MaxInt, math.MinInt}, {math.MinInt, math.MaxInt}} {
			d := of(t, "a/b/c")
			d.refuses(t, api.ErrRange, command(name), r[0], r[1], 1)
			d.refuses(t, api.ErrRange, command(name).count(1), r[0], r[1], 1)
			d.refuses(t, api.ErrRange, command(name).reg('%').count(0), r[0], r[1], 9)
		}
	}
}

// TestLineNought: for which names it may be, alone and with others behind it.
func TestLineNought(t *testing.T) {
	for _, name := range all() {
		for to := range 4 {
			d := of(t, "a/b/c")
			if name != "" && name != "pu" && name != "=" {
				d.refuses(t, api.ErrRange, command(name), 0, to, 1)
				d.refuses(t, api.ErrRange, command(name).reg('%').count(1), 0, to, 9)
				continue
			}
			if _, e := d.do(t, command(name), 0, to, 1); e != api.OK {
				t.Errorf("%q of 0 to %d: error %d", name, to, e)
			}
		}
	}
}

// TestCount: as many lines as it says, from the last one on; as many as there are, if it says more.
func TestCount(t *testing.T) {
	for _, row := range []struct{ from, to, count, first, last int }{
		{1, 1, 1, 1, 1},
		{1, 1, 2, 1, 2},
		{1, 1, 5, 1, 5},
		{1, 1, 6, 1, 5},
		{2, 4, 1, 4, 4},
		{2, 4, 2, 4, 5},
		{2, 4, 3, 4, 5},
		{2, 3, 2, 3, 4},
		{1, 5, 1, 5, 5},
		{5, 5, 1, 5, 5},
		{5, 5, 2, 5, 5},
		{3, 3, 999999999, 3, 5},
		{1, 3, math.MaxInt, 3, 5},
		{1, 1, math.MaxInt, 1, 5},
		{5, 5, math.MaxInt, 5, 5},
		{5, 5, math.MaxInt - 4, 5, 5},
		{1, 4, -1, 1, 4},
	} {
		lines := []string{"a", "b", "c", "d", "e"}
		part := lines[row.first-1 : row.last]
		d := laidOut(t, lines...)
		d.tells(t, named("p").count(row.count), row.from, row.to, 0, part...)
		d.check(t, "a/b/c/d/e", row.last, "a1 b2 c3 d4 e5")
		d.goes(t, named("y").count(row.count), row.from, row.to, 0)
		joined := strings.Join(part, "/")
		d.checkHeld(t, `"=`+joined+` 0=`+joined)
		d.goes(t, shifted(">").count(row.count), row.from, row.to, 0)
		for n, line := range d.b.Lines() {
			want := lines[n]
			if n+1 >= row.first && n+1 <= row.last {
				want = "\t" + want
			}
			if line != want {
				t.Errorf("> %v: line %d is %q, want %q", row, n+1, line, want)
			}
		}
		d.goes(t, shifted("<").count(row.count), row.from, row.to, 0)
		d.check(t, "a/b/c/d/e", row.last, "a1 b2 c3 d4 e5")
		d.goes(t, named("d").count(row.count), row.from, row.to, 0)
		want := append(append([]string{}, lines[:row.first-1]...), lines[row.last:]...)
		if is := strings.Join(d.b.Lines(), "/"); is != strings.Join(want, "/") {
			t.Errorf("d %v: %q, want %q", row, is, want)
		}
	}
}

// TestCountOfJoin: one of 1 is two lines, too.
func TestCountOfJoin(t *testing.T) {
	for _, row := range []struct {
		from, to, count int
		want            string
		at              int
		marks           string
	}{
		{1, 1, 1, "a b/c/d/e", 1, "a1 c2 d3 e4"},
		{1, 1, 2, "a b/c/d/e", 1, "a1 c2 d3 e4"},
		{1, 1, 3, "a b c/d/e", 1, "a1 d2 e3"},
		{1, 3, 1, "a/b/c d/e", 3, "a1 b2 c3 e4"},
		{1, 3, 2, "a/b/c d/e", 3, "a1 b2 c3 e4"},
		{1, 3, 3, "a/b/c d e", 3, "a1 b2 c3"},
		{1, 4, 9, "a/b/c/d e", 4, "a1 b2 c3 d4"},
		{1, 1, math.MaxInt, "a b c d e", 1, "a1"},
	} {
		d := of(t, "a/b/c/d/e")
		d.goes(t, named("j").count(row.count), row.from, row.to, 0)
		d.check(t, row.want, row.at, row.marks)
	}
	for _, count := range []int{1, 2, 9, math.MaxInt} {
		d := of(t, "a/b/c")
		d.refuses(t, api.ErrRange, named("j").count(count), 3, 3, 0)
		d.refuses(t, api.ErrRange, named("j").count(count), 1, 3, 0)
	}
}

// TestNoCount: 0 is refused, and so is whatever is below -1, as its range would be turned round.
func TestNoCount(t *testing.T) {
	for _, name := range []string{"d", "y", "j", "p", ">", "<"} {
		for _, count := range []int{0, -2, -3, math.MinInt, math.MinInt + 1} {
			d := of(t, "a/b/c")
			for from := 1; from <= 3; from++ {
				for to := from; to <= 3; to++ {
					d.refuses(t, api.ErrRange, command(name).count(count), from, to, 0)
					d.refuses(t, api.ErrRange, command(name).count(count).reg('%'), from, to, 0)
				}
			}
		}
	}
}

// TestNoCountIsAsked: names of which nothing is said of a number do what they do without one.
func TestNoCountIsAsked(t *testing.T) {
	for _, name := range append([]string{"", "=", "m", "t", "pu", "k"}, others...) {
		for _, count := range []int{0, 1, 2, 9, -2, math.MaxInt, math.MinInt} {
			with, without := of(t, "a/b/c/d"), of(t, "a/b/c/d")
			tells, e := with.do(t, command(name).count(count), 2, 3, 4)
			want, f := without.do(t, command(name), 2, 3, 4)
			if e != f || strings.Join(tells, "/") != strings.Join(want, "/") || !with.view().same(without.view()) {
				t.Errorf("%q, count %d: %q, error %d, %v, want %q, error %d, %v", name, count, tells, e, with.view(), want, f, without.view())
			}
		}
	}
}

// TestOtherNames: whatever else is wrong with what they ask for.
func TestOtherNames(t *testing.T) {
	for _, name := range others {
		for from := 1; from <= 3; from++ {
			for to := from; to <= 3; to++ {
				d := of(t, "a/b/c")
				d.refuses(t, api.ErrCmd, named(name), from, to, 0)
				d.refuses(t, api.ErrCmd, named(name).bang().reg('%').count(0).arg("x"), from, to, 9)
			}
		}
	}
}
