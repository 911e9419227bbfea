package marks_test

import (
	"math"
	"slices"
	"testing"

	"emendator/api"
	"emendator/marks"
)

func TestNewAreNone(t *testing.T) {
	m := marks.New()
	if m == nil || len(m.All()) != 0 {
		t.Fatal("New")
	}
	check(t, m, "")
}

func TestSetAndGet(t *testing.T) {
	m := marks.New()
	set(t, m, 'b', 7)
	check(t, m, "b7")
	set(t, m, 'a', 3)
	check(t, m, "a3 b7")
	set(t, m, 'z', 7)
	check(t, m, "a3 b7 z7")
	set(t, m, 'b', 2)
	check(t, m, "a3 b2 z7")
	set(t, m, 'b', 2)
	check(t, m, "a3 b2 z7")
	set(t, m, 'z', 1)
	check(t, m, "a3 b2 z1")
}

// TestSetLines: 1 to 2^31 - 1 are lines, what is beyond is refused, and a mark that was there stays.
func TestSetLines(t *testing.T) {
	for _, line := range []int{1, 2, 3, 1999, 2000, 2001, 65536, 1 << 30, top - 1, top} {
		m := marks.New()
		set(t, m, 'q', line)
		if is, e := m.Get('q'); is != line || e != api.OK {
			t.Errorf("line %d: Get: %d, error %d", line, is, e)
		}
	}
	wrong := []int{0, -1, -2, -top, -top - 1, top + 1, top + 2, 1 << 32, 1<<32 + 5, -1<<32 + 5, math.MaxInt, math.MaxInt - 1, math.MinInt, math.MinInt + 1}
	for _, line := range wrong {
		m := marked(t, 5)
		for _, name := range []byte("ab") {
			if e := m.Set(name, line); e != api.ErrArg {
				t.Errorf("Set(%q, %d): error %d", name, line, e)
			}
		}
		check(t, m, "a5")
	}
}

// TestSetNames: of all bytes a to z are names; of the others it is the name that is refused, whatever the line is.
func TestSetNames(t *testing.T) {
	for n := range 256 {
		name := byte(n)
		is := slices.Contains(letters(), name)
		m := marks.New()
		for _, line := range []int{1, 9, top, 0, -1, top + 1, math.MaxInt, math.MinInt} {
			want := api.ErrMark
			if is {
				want = api.OK
				if line < 1 || line > top {
					want = api.ErrArg
				}
			}
			if e := m.Set(name, line); e != want {
				t.Errorf("Set(%q, %d): error %d, want %d", name, line, e, want)
			}
		}
		if want := map[bool]int{true: 1, false: 0}[is]; len(m.All()) != want {
			t.Errorf("%q: the marks are %q", name, told(t, m))
		}
	}
}

// TestNamesJustOutside: those beside a and z, and great letters, are none, though their small ones are there.
func TestNamesJustOutside(t *testing.T) {
	m := marks.New()
	for _, name := range letters() {
		set(t, m, name, 4)
	}
	was := told(t, m)
	for _, name := range []byte{'a' - 1, 'z' + 1, 'A', 'Z', 'A' - 1, 'Z' + 1, '0', '"', '\'', ' ', 0, 'a' + 128, 'z' + 128, 255} {
		if e := m.Set(name, 8); e != api.ErrMark {
			t.Errorf("Set(%q): error %d", name, e)
		}
		if line, e := m.Get(name); line != 0 || e != api.ErrMark {
			t.Errorf("Get(%q): %d, error %d", name, line, e)
		}
	}
	check(t, m, was)
}

func TestGetOfNoMark(t *testing.T) {
	m := marked(t, 3, 4)
	for _, name := range []byte("cz") {
		if line, e := m.Get(name); line != 0 || e != api.ErrMark {
			t.Errorf("Get(%q): %d, error %d", name, line, e)
		}
	}
	m.Splice(4, 1, 0)
	if line, e := m.Get('b'); line != 0 || e != api.ErrMark {
		t.Errorf("Get of one that is gone: %d, error %d", line, e)
	}
	set(t, m, 'b', 9)
	check(t, m, "a3 b9")
}

// TestAllByNames: however they were set, in whatever lines.
func TestAllByNames(t *testing.T) {
	want := "a126 b125 c124 d123 e122 f121 g120 h119 i118 j117 k116 l115 m114 n113 o112 p111 q110 r109 s108 t107 u106 v105 w104 x103 y102 z101"
	for step := range 26 {
		m := marks.New()
		for i := range 26 {
			name := letters()[(i*5+step)%26]
			set(t, m, name, 101+int('z'-name))
		}
		check(t, m, want)
	}
}

// TestAllIsNew: what came out stays as it was, whatever is done with the marks then.
func TestAllIsNew(t *testing.T) {
	m := marked(t, 3, 4, 5)
	all := m.All()
	set(t, m, 'b', 9)
	set(t, m, 'd', 1)
	m.Splice(1, 3, 0)
	m.Move(1, 1, 8)
	if is := row(all); is != "a3 b4 c5" {
		t.Errorf("what All told is %q now", is)
	}
}

// TestNewOnesAreOthers: marks of one call know nothing of those of another one.
func TestNewOnesAreOthers(t *testing.T) {
	m, o := marked(t, 3, 4), marks.New()
	check(t, o, "")
	set(t, o, 'a', 8)
	set(t, o, 'c', 9)
	o.Splice(1, 0, 2)
	check(t, m, "a3 b4")
	check(t, o, "a10 c11")
	m.Splice(1, 9, 0)
	check(t, m, "")
	check(t, o, "a10 c11")
}
