package regs_test

import (
	"testing"

	"emendator/api"
	"emendator/regs"
)

func TestExample(t *testing.T) {
	r := regs.New()
	yank(t, r, 'a', whole("x"))
	yank(t, r, 'A', whole("y"))
	checkIs(t, r, 'a', whole("x", "y"))
	cut(t, r, '"', whole("p"))
	cut(t, r, '"', whole("q"))
	checkIs(t, r, '1', whole("q"))
	checkIs(t, r, '2', whole("p"))
	check(t, r, `"=q 1=q 2=p a=x|y`)
}

// TestIntoALetter: in it and in the nameless one, and nowhere else; the same of a digit.
func TestIntoALetter(t *testing.T) {
	for way, do := range ways() {
		for _, name := range []byte(names[1:]) {
			r := regs.New()
			do(t, r, name, whole("x", "y"))
			t.Log(way)
			check(t, r, `"=x|y `+string(name)+`=x|y`)
			do(t, r, name, part("z"))
			check(t, r, `"-z `+string(name)+`-z`)
		}
	}
}

// TestOthersStay: what is in any other register but the nameless one stays.
func TestOthersStay(t *testing.T) {
	for way, do := range ways() {
		for _, name := range []byte(names[1:]) {
			r := filled(t)
			want := contents(t, r)
			want[name], want['"'] = part("new", ""), part("new", "")
			do(t, r, name, part("new", ""))
			t.Log(way)
			checkAll(t, r, want)
		}
	}
}

func checkAll(t testing.TB, r *regs.Regs, want map[byte]api.Reg) {
	t.Helper()
	for name, x := range want {
		checkIs(t, r, name, x)
	}
	if is := contents(t, r); len(is) != len(want) {
		t.Errorf("there is something in %d, want %d", len(is), len(want))
	}
}

// TestYankNameless: in it, and in 0; those that are deleted stay.
func TestYankNameless(t *testing.T) {
	r := regs.New()
	yank(t, r, '"', part("x"))
	check(t, r, `"-x 0-x`)
	yank(t, r, '"', whole("y", "z"))
	check(t, r, `"=y|z 0=y|z`)
	yank(t, r, 'a', part("p"))
	check(t, r, `"-p 0=y|z a-p`)
	cut(t, r, '"', part("q"))
	check(t, r, `"-q 0=y|z 1-q a-p`)
	yank(t, r, '"', part("s"))
	check(t, r, `"-s 0-s 1-q a-p`)
	yank(t, r, '0', part("t"))
	check(t, r, `"-t 0-t 1-q a-p`)
}

// TestYankNamelessOfAll: of registers that are all filled, two others are new.
func TestYankNamelessOfAll(t *testing.T) {
	r := filled(t)
	want := contents(t, r)
	want['"'], want['0'] = whole("new"), whole("new")
	yank(t, r, '"', whole("new"))
	checkAll(t, r, want)
}

// TestNowhere: nothing comes into _, and none else has anything of it.
func TestNowhere(t *testing.T) {
	for way, do := range ways() {
		for _, x := range []api.Reg{part("x"), whole("x", "y"), part(), whole(""), part("a\nb\x00\xff")} {
			r := regs.New()
			do(t, r, '_', x)
			t.Log(way)
			check(t, r, "")
			r = filled(t)
			was := told(t, r)
			do(t, r, '_', x)
			check(t, r, was)
			if _, e := r.Get('_'); e != api.ErrRegEmpty {
				t.Errorf("Get of _: error %d", e)
			}
		}
	}
}

// TestNoLines: one empty line that is not Whole, said to be or not.
func TestNoLines(t *testing.T) {
	for way, do := range ways() {
		for _, none := range []api.Reg{{}, {Whole: true}, {Lines: []string{}}, {Lines: []string{}, Whole: true}} {
			for _, name := range []byte("a5zZ") {
				r := regs.New()
				do(t, r, name, none)
				t.Log(way)
				check(t, r, `"- `+string(small(name))+`-`)
				checkIs(t, r, name, part(""))
				checkIs(t, r, '"', part(""))
			}
		}
	}
	r := regs.New()
	yank(t, r, '"', whole())
	check(t, r, `"- 0-`)
	cut(t, r, '"', whole())
	check(t, r, `"- 0- 1-`)
	cut(t, r, '"', part())
	check(t, r, `"- 0- 1- 2-`)
}

// TestOneEmptyLine: it is Whole if it is said to be.
func TestOneEmptyLine(t *testing.T) {
	r := regs.New()
	yank(t, r, 'a', whole(""))
	yank(t, r, 'b', part(""))
	check(t, r, `"- a= b-`)
}

// TestAnyBytes: all 256 in a line, ends of lines too, are what they are.
func TestAnyBytes(t *testing.T) {
	var all []byte
	for n := range 256 {
		all = append(all, byte(n))
	}
	x := whole(string(all), "\n", "", "\x00", string(all[128:]), "\r\n|")
	for way, do := range ways() {
		r := regs.New()
		do(t, r, 'q', x)
		do(t, r, 'Q', x)
		do(t, r, '"', x)
		t.Log(way)
		checkIs(t, r, '"', x)
		checkIs(t, r, 'q', whole(append(append([]string{}, x.Lines...), x.Lines...)...))
		do(t, r, 'q', part(x.Lines...))
		do(t, r, 'Q', part(x.Lines...))
		checkIs(t, r, 'Q', part(string(all), "\n", "", "\x00", string(all[128:]), "\r\n|"+string(all), "\n", "", "\x00", string(all[128:]), "\r\n|"))
	}
}

// TestNewOnesAreOthers: registers of one call know nothing of those of another one.
func TestNewOnesAreOthers(t *testing.T) {
	r, o := regs.New(), regs.New()
	yank(t, r, 'a', part("x"))
	check(t, o, "")
	yank(t, o, 'A', part("y"))
	cut(t, o, '"', part("z"))
	check(t, r, `"-x a-x`)
	check(t, o, `"-z 1-z a-y`)
}
