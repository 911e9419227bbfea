package regs_test

import (
	"fmt"
	"reflect"
	"slices"
	"strings"
	"testing"

	"emendator/api"
	"emendator/regs"
)

// most is how many bytes may be in a register, each line one more.
const most = 20000

func whole(lines ...string) api.Reg { return api.Reg{Lines: lines, Whole: true} }

func part(lines ...string) api.Reg { return api.Reg{Lines: lines} }

// handed hands x in by a list of which only a part counts, looks whether all of that list stays as it was, and then writes over it: who kept it tells it by what is got later.
func handed(t testing.TB, x api.Reg, to func(x api.Reg) api.Errno) api.Errno {
	t.Helper()
	behind := []string{"behind", "the", "list"}
	all := slices.Concat(x.Lines, behind)
	e := to(api.Reg{Lines: all[:len(x.Lines)], Whole: x.Whole})
	if want := slices.Concat(x.Lines, behind); !slices.Equal(all, want) {
		t.Fatalf("what was handed in is %.80q now", all)
	}
	for i := range all {
		all[i] = "written over"
	}
	return e
}

func yankOf(r *regs.Regs, name byte) func(api.Reg) api.Errno {
	return func(x api.Reg) api.Errno { return r.Yank(name, x) }
}

func cutOf(r *regs.Regs, name byte) func(api.Reg) api.Errno {
	return func(x api.Reg) api.Errno { return r.Cut(name, x) }
}

func yank(t testing.TB, r *regs.Regs, name byte, x api.Reg) {
	t.Helper()
	if e := handed(t, x, yankOf(r, name)); e != api.OK {
		t.Fatalf("Yank(%q, %.80q): error %d", name, x.Lines, e)
	}
}

func cut(t testing.TB, r *regs.Regs, name byte, x api.Reg) {
	t.Helper()
	if e := handed(t, x, cutOf(r, name)); e != api.OK {
		t.Fatalf("Cut(%q, %.80q): error %d", name, x.Lines, e)
	}
}

// names are those into which something may come, rising.
const names = `"0123456789abcdefghijklmnopqrstuvwxyz`

// small is the small letter of a great one, any other name itself.
func small(name byte) byte {
	if name >= 'A' && name <= 'Z' {
		return name + 32
	}
	return name
}

// contents are what is in all registers. It asks Get, of each byte there is, twice, with what came out written over in between, and Names likewise: all of them say the same.
func contents(t testing.TB, r *regs.Regs) map[byte]api.Reg {
	t.Helper()
	all := map[byte]api.Reg{}
	for range 2 {
		for n := range 256 {
			name := byte(n)
			x, e := r.Get(name)
			checkGot(t, all, name, x, e)
		}
		checkNames(t, r, all)
	}
	return all
}

// checkGot is of one answer of Get: it fits to its name, and to what was got of that register earlier, if something was.
func checkGot(t testing.TB, all map[byte]api.Reg, name byte, x api.Reg, e api.Errno) {
	t.Helper()
	want, again := all[small(name)]
	switch {
	case e == api.OK && !strings.Contains(names, string(small(name))):
		t.Fatalf("Get(%q): there is something in it", name)
	case e == api.OK && len(x.Lines) == 0:
		t.Fatalf("Get(%q): no lines", name)
	case e == api.OK && again && !reflect.DeepEqual(x, want):
		t.Fatalf("Get(%q): %.80q %t, and then %.80q %t", name, want.Lines, want.Whole, x.Lines, x.Whole)
	case e == api.OK:
		all[small(name)] = api.Reg{Lines: slices.Clone(x.Lines), Whole: x.Whole}
		for i := range x.Lines[:cap(x.Lines)] {
			x.Lines[:cap(x.Lines)][i] = "written over"
		}
	case len(x.Lines) != 0 || x.Whole:
		t.Fatalf("Get(%q): %.80q %t, and error %d", name, x.Lines, x.Whole, e)
	case again || e != missing(name):
		t.Fatalf("Get(%q): error %d", name, e)
	}
}

// missing is the error of a name by which nothing is got.
func missing(name byte) api.Errno {
	if strings.Contains(names+"_", string(small(name))) {
		return api.ErrRegEmpty
	}
	return api.ErrReg
}

func checkNames(t testing.TB, r *regs.Regs, all map[byte]api.Reg) {
	t.Helper()
	var want []byte
	for i := range len(names) {
		if _, there := all[names[i]]; there {
			want = append(want, names[i])
		}
	}
	is := r.Names()
	if string(is) != string(want) {
		t.Fatalf("Names is %q, by Get it is %q", is, want)
	}
	clear(is[:cap(is)])
}

// told is what is in registers, as the tests write it: a name, = if it is Whole and - if it is not, its lines with | between.
func told(t testing.TB, r *regs.Regs) string {
	t.Helper()
	all := contents(t, r)
	var words []string
	for i := range len(names) {
		if x, there := all[names[i]]; there {
			how := map[bool]string{true: "=", false: "-"}[x.Whole]
			words = append(words, fmt.Sprintf("%c%s%s", names[i], how, strings.Join(x.Lines, "|")))
		}
	}
	return strings.Join(words, " ")
}

func check(t testing.TB, r *regs.Regs, want string) {
	t.Helper()
	if is := told(t, r); is != want {
		t.Errorf("the registers are %.200q, want %.200q", is, want)
	}
}

// checkIs is of one register: its lines are these, to the byte.
func checkIs(t testing.TB, r *regs.Regs, name byte, want api.Reg) {
	t.Helper()
	x, e := r.Get(name)
	if e != api.OK || !reflect.DeepEqual(x, want) {
		t.Errorf("Get(%q): %.80q %t, error %d, want %.80q %t", name, x.Lines, x.Whole, e, want.Lines, want.Whole)
	}
}

// ways are Yank and Cut, for what both do alike.
func ways() map[string]func(t testing.TB, r *regs.Regs, name byte, x api.Reg) {
	return map[string]func(t testing.TB, r *regs.Regs, name byte, x api.Reg){"Yank": yank, "Cut": cut}
}

// filled are registers of which each has its own, told by its name: whole ones and others by turns.
func filled(t testing.TB) *regs.Regs {
	t.Helper()
	r := regs.New()
	for i := len(names) - 1; i > 0; i-- {
		yank(t, r, names[i], api.Reg{Lines: []string{"of", string(names[i])}, Whole: i%2 == 0})
	}
	return r
}
