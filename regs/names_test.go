package regs_test

import (
	"strings"
	"testing"

	"emendator/api"
	"emendator/regs"
)

// known are all names that there are, great letters among them.
const known = names + "_ABCDEFGHIJKLMNOPQRSTUVWXYZ"

func isKnown(name byte) bool { return strings.IndexByte(known, name) >= 0 }

func TestKnown(t *testing.T) {
	for n := range 256 {
		if is := regs.Known(byte(n)); is != isKnown(byte(n)) {
			t.Errorf("Known(%q): %t", byte(n), is)
		}
	}
}

// TestNamesJustOutside: those beside the ones that there are, by their numbers, and those that only look like them.
func TestNamesJustOutside(t *testing.T) {
	outside := []byte{'"' - 1, '"' + 1, '0' - 1, '9' + 1, 'A' - 1, 'Z' + 1, '_' - 1, '_' + 1, 'z' + 1,
		0, ' ', '\'', '%', '@', '*', '+', '-', '.', ':', '/', '=', '#', '\n', 127, 128, 'a' + 128, 'A' + 128, '0' + 128, '"' + 128, '_' + 128, 255}
	for _, name := range outside {
		if regs.Known(name) {
			t.Errorf("Known(%q)", name)
		}
	}
}

// TestEachByte: of all 256, what Yank, Cut and Get say, and whether something came in, of registers with nothing in them and of others.
func TestEachByte(t *testing.T) {
	for n := range 256 {
		name, want := byte(n), api.OK
		if !isKnown(name) {
			want = api.ErrReg
		}
		for _, r := range []*regs.Regs{regs.New(), filled(t)} {
			was := told(t, r)
			for _, do := range []func(x api.Reg) api.Errno{yankOf(r, name), cutOf(r, name)} {
				if e := handed(t, whole("x"), do); e != want {
					t.Errorf("%q: error %d, want %d", name, e, want)
				}
			}
			if same := told(t, r) == was; same != (name == '_' || want != api.OK) {
				t.Errorf("%q: the registers are %q, and were %q", name, told(t, r), was)
			}
		}
	}
}

// TestErrRegFirst: a name that is none is told of, however long what is handed in; into _ it comes all the same.
func TestErrRegFirst(t *testing.T) {
	long := whole(strings.Repeat("x", most), "y")
	r := filled(t)
	was := told(t, r)
	for n := range 256 {
		name, want := byte(n), api.ErrRegLong
		switch {
		case name == '_':
			want = api.OK
		case !isKnown(name):
			want = api.ErrReg
		}
		if e := handed(t, long, yankOf(r, name)); e != want {
			t.Errorf("Yank(%q): error %d, want %d", name, e, want)
		}
		if e := handed(t, long, cutOf(r, name)); e != want {
			t.Errorf("Cut(%q): error %d, want %d", name, e, want)
		}
	}
	check(t, r, was)
}

// TestNothingFirst: New are empty ones, whatever is asked of them.
func TestNothingFirst(t *testing.T) {
	r := regs.New()
	check(t, r, "")
	if all := r.Names(); len(all) != 0 {
		t.Errorf("Names: %q", all)
	}
	for _, name := range []byte(known) {
		if x, e := r.Get(name); e != api.ErrRegEmpty || len(x.Lines) != 0 || x.Whole {
			t.Errorf("Get(%q): %q %t, error %d", name, x.Lines, x.Whole, e)
		}
	}
	for _, name := range []byte("!#%@[`{\x00\xff") {
		if x, e := r.Get(name); e != api.ErrReg || len(x.Lines) != 0 || x.Whole {
			t.Errorf("Get(%q): %q %t, error %d", name, x.Lines, x.Whole, e)
		}
	}
}

// TestNamesRising: however they were filled.
func TestNamesRising(t *testing.T) {
	for step := range len(names) {
		r := regs.New()
		for i := range len(names) {
			yank(t, r, names[(i*5+step)%len(names)], part("x"))
		}
		if is := string(r.Names()); is != names {
			t.Errorf("Names: %q", is)
		}
	}
	r := regs.New()
	for _, name := range []byte("z5bA") {
		yank(t, r, name, part("x"))
	}
	if is := string(r.Names()); is != `"5abz` {
		t.Errorf("Names: %q", is)
	}
}

// TestNamesIsNew: what came out stays as it was, and is nobody else's.
func TestNamesIsNew(t *testing.T) {
	r := regs.New()
	yank(t, r, 'b', part("x"))
	all := r.Names()
	other := r.Names()
	other[0] = '?'
	yank(t, r, 'a', part("y"))
	cut(t, r, '"', part("z"))
	if string(all) != `"b` {
		t.Errorf("what Names told is %q now", all)
	}
	check(t, r, `"-z 1-z a-y b-x`)
}
