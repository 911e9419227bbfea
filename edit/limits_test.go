package edit_test

import (
	"slices"
	"strings"
	"testing"

	"emendator/api"
)

// TestMoreLines: a text has 2000 at most.
func TestMoreLines(t *testing.T) {
	d := laidOut(t, many(1998)...)
	d.holds(t, 'a', true, "x/y")
	d.holds(t, 'b', true, "x/y/z")
	for _, n := range []int{1, 1000, 1998} {
		d.refuses(t, api.ErrLimit, named("t"), 1, 3, n)
		d.refuses(t, api.ErrLimit, named("t"), 1, 1998, n)
		d.refuses(t, api.ErrLimit, named("pu"), n, n, 0)
		d.refuses(t, api.ErrLimit, named("pu").bang(), n, n, 0)
	}
	d.refuses(t, api.ErrLimit, named("pu"), 0, 0, 0)
	d.refuses(t, api.ErrLimit, named("pu").bang().reg('B'), 0, 0, 0)
	d.goes(t, named("t"), 1, 2, 1998)
	d.refuses(t, api.ErrLimit, named("t"), 1, 1, 0)
	d.refuses(t, api.ErrLimit, named("pu").reg('a'), 2000, 2000, 0)
	d.goes(t, named("d").reg('c'), 5, 5, 0)
	d.goes(t, named("pu").reg('c'), 4, 4, 0)
	d.refuses(t, api.ErrLimit, named("pu").reg('c'), 4, 4, 0)
	if is, want := d.b.Lines(), append(many(1998), "line 1", "line 2"); !slices.Equal(is, want) {
		t.Errorf("the text is %s", brief(is))
	}
}

// TestLongerLines: a line has 1000 bytes at most.
func TestLongerLines(t *testing.T) {
	d := laidOut(t, "a", long(998), "b", long(999), "c", "", long(1000), "", tabs(1000))
	for _, row := range []struct {
		c        made
		from, to int
	}{
		{named("j"), 1, 3},
		{named("j"), 3, 4},
		{named("j"), 4, 5},
		{named("j"), 4, 4},
		{named("j").count(2), 4, 4},
		{named("j").bang(), 6, 9},
		{named("j").bang(), 2, 5},
		{shifted(">>"), 4, 4},
		{shifted(">"), 7, 7},
		{shifted(">"), 1, 9},
		{shifted(">>>"), 2, 2},
		{shifted(">" + long(300)), 2, 2},
	} {
		d.refuses(t, api.ErrLong, row.c, row.from, row.to, 0)
	}
	d.goes(t, named("j").bang(), 4, 5, 0)
	d.goes(t, named("j").bang(), 5, 7, 0)
	d.goes(t, named("j"), 1, 2, 0)
	d.goes(t, shifted(">"), 2, 2, 0)
	d.check(t, strings.Join([]string{"a " + long(998), "\tb", long(999) + "c", long(1000), tabs(1000)}, "/"), 2, "a1 c2 d3 f4 i5")
}

// TestLongRegister: a register may have lines that are too long for a text; more lines than there may be come first.
func TestLongRegister(t *testing.T) {
	d := laidOut(t, "a", "b")
	d.holds(t, 'q', true, "x/"+long(1001)+"/y")
	d.holds(t, 'r', true, "x/"+long(1000)+"/y")
	d.holds(t, 's', true, long(1001)+strings.Repeat("/", 1998))
	for _, c := range []made{named("pu"), named("pu").bang()} {
		d.refuses(t, api.ErrLong, c.reg('q'), 1, 1, 0)
		d.refuses(t, api.ErrLong, c.reg('Q'), 0, 0, 0)
		d.refuses(t, api.ErrLimit, c.reg('s'), 2, 2, 0)
	}
	d.goes(t, named("pu").reg('r'), 1, 1, 0)
	d.check(t, "a/x/"+long(1000)+"/y/b", 4, "a1 b5")
}

// TestFullRegister: nothing is gone of what no register can hold.
func TestFullRegister(t *testing.T) {
	lines := slices.Repeat([]string{long(999)}, 20)
	for _, name := range []string{"d", "y"} {
		d := laidOut(t, append(lines, "", "x")...)
		d.refuses(t, api.ErrRegLong, named(name), 1, 21, 0)
		d.refuses(t, api.ErrRegLong, named(name).reg('a'), 1, 21, 0)
		d.refuses(t, api.ErrRegLong, named(name).reg('B'), 1, 22, 0)
		d.goes(t, named("y").reg('a'), 1, 20, 0)
		d.refuses(t, api.ErrRegLong, named(name).reg('A'), 21, 21, 0)
		d.refuses(t, api.ErrRegLong, named(name).reg('A'), 1, 22, 0)
		d.goes(t, named(name).reg('_'), 1, 22, 0)
	}
	d := laidOut(t, append(lines, "", "x")...)
	d.goes(t, named("d").reg('_'), 1, 22, 0)
	d.check(t, "", 1, "a1")
	d.checkHeld(t, "")
}

// TestWhichErrorComesFirst: lines that are not there, then a number of none, then what the name says.
func TestWhichErrorComesFirst(t *testing.T) {
	d := laidOut(t, slices.Repeat([]string{"ten bytes."}, 1999)...)
	d.holds(t, 'a', true, "x/"+long(1001))
	for _, row := range []struct {
		want           api.Errno
		c              made
		from, to, dest int
	}{
		{api.ErrRange, named("zz"), 2, 1, 0},
		{api.ErrRange, named("zz"), 0, 1, 0},
		{api.ErrCmd, named("zz"), 1, 1, -1},
		{api.ErrRange, named("d").reg('%').count(0), 1, 1, 0},
		{api.ErrReg, named("d").reg('%').count(1), 1, 1, 0},
		{api.ErrRange, named("y").reg('%'), 1, 2000, 0},
		{api.ErrReg, named("y").reg('%'), 1, 1999, 0},
		{api.ErrRegLong, named("y"), 1, 1999, 0},
		{api.ErrRange, named("m"), 2, 1, 2000},
		{api.ErrRange, named("m"), 1, 1999, 2000},
		{api.ErrRange, named("t"), 1, 1999, 2000},
		{api.ErrLimit, named("t"), 1, 1999, 1999},
		{api.ErrRange, named("j"), 1999, 1999, 0},
		{api.ErrRange, named("j").count(0), 1999, 1999, 0},
		{api.ErrLong, named("j"), 1, 1999, 0},
		{api.ErrReg, named("pu").reg('%'), 1999, 1999, 0},
		{api.ErrRegEmpty, named("pu").reg('b'), 1999, 1999, 0},
		{api.ErrRange, named("pu").reg('%'), 1999, 2000, 0},
		{api.ErrLimit, named("pu").reg('a'), 1999, 1999, 0},
		{api.ErrRange, named("k").reg('%'), 0, 1, 0},
		{api.ErrMark, named("k").reg('%'), 1, 1, 0},
		{api.ErrRange, shifted(">" + long(200)).count(0), 1, 1, 0},
	} {
		d.refuses(t, row.want, row.c, row.from, row.to, row.dest)
	}
}

// TestErrors: their numbers are the chapters'.
func TestErrors(t *testing.T) {
	d := laidOut(t, slices.Repeat([]string{"ten bytes."}, 2000)...)
	d.refuses(t, 3, named("t"), 1, 1, 1)
	d.refuses(t, 90, named("j"), 1, 2000, 1)
	d.refuses(t, 100, named("k"), 1, 1, 1)
	d.refuses(t, 110, named("y").reg('!'), 1, 1, 1)
	d.refuses(t, 111, named("pu").reg('b'), 1, 1, 1)
	d.refuses(t, 112, named("y"), 1, 2000, 1)
	d.refuses(t, 140, named("p"), 1, 2001, 1)
	d.refuses(t, 150, named("x"), 1, 1, 1)
	d.refuses(t, 160, named("m"), 1, 2, 1)
}

// TestGreatTexts: with as many lines as there may be, as long as they may be.
func TestGreatTexts(t *testing.T) {
	lines := slices.Repeat([]string{long(1000)}, 2000)
	d := laidOut(t, lines...)
	d.refuses(t, api.ErrLong, named("j").bang(), 1, 2000, 0)
	d.refuses(t, api.ErrLong, shifted(">"+long(200)), 1, 2000, 0)
	d.tells(t, named("p"), 1, 2000, 0, lines...)
	d.goes(t, named("m"), 1, 1999, 2000)
	d.goes(t, shifted("<"), 1, 2000, 0)
	d = laidOut(t, slices.Repeat([]string{""}, 2000)...)
	d.goes(t, named("j"), 1, 2000, 0)
	d.check(t, "", 1, "a1")
	d = laidOut(t, slices.Repeat([]string{"x"}, 1000)...)
	d.goes(t, named("j").bang(), 1, 1000, 0)
	d.check(t, strings.Repeat("x", 1000), 1, "a1")
	d = laidOut(t, append([]string{long(1000)}, slices.Repeat([]string{" \t"}, 1999)...)...)
	d.goes(t, named("j"), 1, 2000, 0)
	d.check(t, long(1000), 1, "a1")
}
