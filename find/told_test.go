package find_test

import (
	"fmt"
	"slices"
	"strings"
	"testing"

	"emendator/api"
	"emendator/find"
	"emendator/pat"
	"emendator/prog"
	"emendator/tree"
)

// read is the program of a pattern.
func read(t testing.TB, s string) api.Prog {
	t.Helper()
	p, e, _ := pat.Parse(s, "")
	if e != api.OK {
		t.Fatalf("%q is no pattern: error %d", s, e)
	}
	c, e := prog.Compile(p, false)
	if e != api.OK {
		t.Fatalf("%q has no program: error %d", s, e)
	}
	return c
}

// text is a text of lines that are written with blanks between; of nothing it is one of no lines.
func text(s string) *tree.Tree { return tree.New(strings.Fields(s)) }

// twice is what ask answers, to a program that has other instructions in the memory behind it. The same call answers the same again, and what is handed in stays as it was.
func twice(t testing.TB, p api.Prog, look func() string, ask func(p api.Prog) string) string {
	t.Helper()
	all := append(slices.Clone(p.Code), api.Inst{Op: api.InAny}, api.Inst{Op: api.InMatch})
	given := p
	given.Code = all[:len(p.Code)]
	program, lines := fmt.Sprint(all), look()
	is, again := ask(given), ask(p)
	if is != again {
		t.Errorf("%s, then %s", is, again)
	}
	if fmt.Sprint(all) != program {
		t.Errorf("the program was changed: %v", all)
	}
	if look() != lines {
		t.Errorf("the text was changed: it was %s, is %s", lines, look())
	}
	return is
}

func looked(x *tree.Tree) func() string {
	return func() string { return fmt.Sprintf("%q %v", x.Lines(), x.Shape()) }
}

// next is what Next tells: a line, or an error, beside which there must be none.
func next(t testing.TB, x *tree.Tree, p api.Prog, line int, back bool) string {
	t.Helper()
	return twice(t, p, looked(x), func(p api.Prog) string {
		n, e := find.Next(x, p, line, back)
		if e == api.OK {
			return fmt.Sprint(n)
		}
		if n != 0 {
			t.Errorf("Next tells line %d beside error %d", n, e)
		}
		return fmt.Sprint("error ", e.Error())
	})
}

// all is what All tells: lines, with blanks between, or an error, beside which there must be none.
func all(t testing.TB, x *tree.Tree, p api.Prog, from, to int, not bool) string {
	t.Helper()
	return twice(t, p, looked(x), func(p api.Prog) string {
		l, e := find.All(x, p, from, to, not)
		if e == api.OK {
			return strings.Trim(fmt.Sprint(l), "[]")
		}
		if len(l) != 0 {
			t.Errorf("All tells lines %v beside error %d", l, e)
		}
		return fmt.Sprint("error ", e.Error())
	})
}

// fits is what Fits tells, or an error, beside which it must be false.
func fits(t testing.TB, p api.Prog, line string) string {
	t.Helper()
	look := func() string { return line }
	return twice(t, p, look, func(p api.Prog) string {
		is, e := find.Fits(p, line)
		if e == api.OK {
			return fmt.Sprint(is)
		}
		if is {
			t.Errorf("Fits tells true beside error %d", e)
		}
		return fmt.Sprint("error ", e.Error())
	})
}

// The errors as they are told.
const (
	errArg   = "error emendator 1"
	errSteps = "error emendator 50"
	errFind  = "error emendator 60"
)

func checkNext(t *testing.T, x *tree.Tree, p api.Prog, line int, back bool, want string) {
	t.Helper()
	if is := next(t, x, p, line, back); is != want {
		t.Errorf("in %.99q: Next of %d, back %t: %s, want %s", x.Lines(), line, back, is, want)
	}
}

func checkAll(t *testing.T, x *tree.Tree, p api.Prog, from, to int, not bool, want string) {
	t.Helper()
	if is := all(t, x, p, from, to, not); is != want {
		t.Errorf("in %.99q: All of %d to %d, not %t: %s, want %s", x.Lines(), from, to, not, is, want)
	}
}

func checkFits(t *testing.T, p api.Prog, line, want string) {
	t.Helper()
	if is := fits(t, p, line); is != want {
		t.Errorf("in %.99q (%d bytes): Fits: %s, want %s", line, len(line), is, want)
	}
}

// endless is a line on which costly (and whatever has as many ways) runs out of steps.
var endless = strings.Repeat("x", 40)

// costly is a pattern that fits where there is an f, and needs too many steps where there are many x ahead of it.
const costly = `\vf|(x*)*y`

// unsound are programs that are none: each is refused for another reason.
func unsound() map[string]api.Prog {
	match := api.Inst{Op: api.InMatch}
	long := slices.Repeat([]api.Inst{match}, api.MaxProg+1)
	return map[string]api.Prog{
		"no code":                {},
		"too long":               {Code: long},
		"it ends with a byte":    {Code: []api.Inst{{Op: api.InByte, C: 'b'}}},
		"an Op that is none":     {Code: []api.Inst{{Op: 15}, match}},
		"Op 0":                   {Code: []api.Inst{{}, match}},
		"a jump beyond the code": {Code: []api.Inst{{Op: api.InJump, X: 2}, match}},
		"a split below the code": {Code: []api.Inst{{Op: api.InSplit, X: 1, Y: -1}, match}},
		"a slot that is none":    {Code: []api.Inst{{Op: api.InSave, X: 22}, match}},
		"a group that is none":   {Code: []api.Inst{{Op: api.InBack, X: 10}, match}},
		"a round that is none":   {Code: []api.Inst{{Op: api.InStart}, match}},
		"rounds below 0":         {Code: []api.Inst{match}, Rounds: -1},
		"too many rounds":        {Code: []api.Inst{match}, Rounds: 2001},
	}
}
