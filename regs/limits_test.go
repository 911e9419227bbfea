package regs_test

import (
	"slices"
	"strings"
	"testing"

	"emendator/api"
	"emendator/regs"
)

// xs are so many bytes.
func xs(n int) string { return strings.Repeat("x", n) }

// empties are so many empty lines.
func empties(n int) []string { return make([]string, n) }

// just are those that have 20000 bytes, each line one more; one more byte, or line, is too much.
func just() [][]string {
	return [][]string{
		{xs(most - 1)},
		{xs(most - 2), ""},
		{"", xs(most - 2)},
		{xs(most/2 - 1), xs(most/2 - 1)},
		{"", xs(most - 4), "y"},
		slices.Repeat([]string{xs(999)}, 20),
		slices.Repeat([]string{"x"}, most/2),
		empties(most),
	}
}

// tooMuch are those of just with one byte more, in the first line and in the last one, and with one empty line more, ahead and behind.
func tooMuch() [][]string {
	var all [][]string
	for _, lines := range just() {
		first, last := slices.Clone(lines), slices.Clone(lines)
		first[0] += "x"
		last[len(last)-1] += "x"
		all = append(all, first, last, slices.Insert(slices.Clone(lines), 0, ""), append(slices.Clone(lines), ""))
	}
	return append(all, []string{xs(2 * most)}, empties(2*most), []string{"", xs(most)}, []string{xs(most), ""}, []string{xs(1 << 20), xs(1 << 20)})
}

// checkLong is of something that is too much: its error, and that all is as it was.
func checkLong(t *testing.T, r *regs.Regs, name byte, x api.Reg) {
	t.Helper()
	was := told(t, r)
	if e := handed(t, x, yankOf(r, name)); e != api.ErrRegLong {
		t.Errorf("Yank(%q) of %d lines: error %d", name, len(x.Lines), e)
	}
	if e := handed(t, x, cutOf(r, name)); e != api.ErrRegLong {
		t.Errorf("Cut(%q) of %d lines: error %d", name, len(x.Lines), e)
	}
	check(t, r, was)
}

func TestJustFits(t *testing.T) {
	for _, lines := range just() {
		for _, is := range []bool{false, true} {
			for way, do := range ways() {
				x := api.Reg{Lines: lines, Whole: is}
				r := regs.New()
				t.Log(way)
				for _, name := range []byte(`"09aZ`) {
					do(t, r, name, x)
					checkIs(t, r, name, x)
					checkIs(t, r, '"', x)
				}
			}
		}
	}
}

// TestTooMuch: of each name, with nothing in the registers and with something in all of them.
func TestTooMuch(t *testing.T) {
	for i, lines := range tooMuch() {
		for _, name := range []byte(`"0159aqzAQZ`) {
			checkLong(t, regs.New(), name, api.Reg{Lines: lines, Whole: i%2 == 0})
			checkLong(t, regs.New(), name, api.Reg{Lines: lines, Whole: i%2 != 0})
		}
		checkLong(t, filled(t), known[i], api.Reg{Lines: lines})
	}
	for _, name := range []byte(known) {
		if name != '_' {
			checkLong(t, filled(t), name, part(xs(most)))
			checkLong(t, filled(t), name, whole(xs(most)))
		}
	}
}

// TestTooMuchDoesNotGoOn: what was deleted stays where it is, and so does what was yanked.
func TestTooMuchDoesNotGoOn(t *testing.T) {
	r := regs.New()
	cut(t, r, '"', part("x"))
	cut(t, r, '"', part("y"))
	yank(t, r, '"', part("z"))
	checkLong(t, r, '"', whole(xs(most)))
	checkLong(t, r, '"', part(xs(most-1), ""))
	check(t, r, `"-z 0-z 1-y 2-x`)
}

// addedTo are registers with x in a, and something else in the nameless one.
func addedTo(t *testing.T, x api.Reg) *regs.Regs {
	t.Helper()
	r := regs.New()
	yank(t, r, 'a', x)
	yank(t, r, '"', part("other"))
	return r
}

// TestAddedLimitWhole: the lines of both, each one more.
func TestAddedLimitWhole(t *testing.T) {
	for _, one := range [][2]bool{{true, true}, {true, false}, {false, true}} {
		is := func(i int, lines ...string) api.Reg { return api.Reg{Lines: lines, Whole: one[i]} }
		r := addedTo(t, is(0, xs(9999)))
		checkLong(t, r, 'A', is(1, xs(10000)))
		checkLong(t, r, 'A', is(1, xs(9999), ""))
		checkLong(t, r, 'A', is(1, empties(10001)...))
		yank(t, r, 'A', is(1, xs(9999)))
		checkIs(t, r, 'a', whole(xs(9999), xs(9999)))
		checkIs(t, r, '"', whole(xs(9999), xs(9999)))
		checkLong(t, r, 'A', whole(""))
		checkLong(t, r, 'A', part(""))
		checkLong(t, r, 'A', part())
		cut(t, r, 'a', is(1, "new"))
		checkIs(t, r, 'a', is(1, "new"))
	}
}

// TestAddedLimitPart: two lines become one, so that there is one more byte's room.
func TestAddedLimitPart(t *testing.T) {
	r := addedTo(t, part(xs(9999)))
	checkLong(t, r, 'A', part(xs(10001)))
	checkLong(t, r, 'A', part(xs(10000), ""))
	checkLong(t, r, 'A', part(empties(10002)...))
	checkLong(t, r, 'A', whole(xs(10000)))
	cut(t, r, 'A', part(xs(10000)))
	checkIs(t, r, 'a', part(xs(19999)))
	checkIs(t, r, '"', part(xs(19999)))
	for range 3 {
		yank(t, r, 'A', part(""))
		cut(t, r, 'A', part())
		checkIs(t, r, 'a', part(xs(19999)))
	}
	checkLong(t, r, 'A', part("x"))
	checkLong(t, r, 'A', part("", ""))
	checkLong(t, r, 'A', whole(""))

	r = addedTo(t, part(empties(10000)...))
	checkLong(t, r, 'A', part(empties(10002)...))
	yank(t, r, 'A', part(empties(10001)...))
	checkIs(t, r, 'a', part(empties(20000)...))
}

// TestAddedLimitByItself: what is too much by itself is too much behind another, too; what just fits does so behind one empty line that is not Whole.
func TestAddedLimitByItself(t *testing.T) {
	for _, lines := range tooMuch() {
		checkLong(t, addedTo(t, part("")), 'A', part(lines...))
		checkLong(t, addedTo(t, whole("")), 'A', part(lines...))
	}
	for _, lines := range just() {
		checkLong(t, addedTo(t, whole("")), 'A', part(lines...))
		checkLong(t, addedTo(t, part("")), 'A', whole(lines...))
		r := addedTo(t, part(""))
		yank(t, r, 'A', part(lines...))
		checkIs(t, r, 'a', part(lines...))
	}
}

// TestManyAdded: line by line, till there is no more room; each register has its own.
func TestManyAdded(t *testing.T) {
	r := regs.New()
	for range 200 {
		yank(t, r, 'A', whole(xs(99)))
	}
	if e := r.Yank('A', whole("")); e != api.ErrRegLong {
		t.Errorf("one more: error %d", e)
	}
	for n := range byte(26) {
		yank(t, r, 'a'+n, whole(xs(most-1)))
	}
	for range 9 {
		cut(t, r, '"', whole(xs(most-1)))
	}
	if is := len(r.Names()); is != 36 {
		t.Errorf("there is something in %d", is)
	}
}
