package regs_test

import (
	"strings"
	"testing"

	"emendator/api"
	"emendator/regs"
)

func TestCopyIsTheSame(t *testing.T) {
	r := regs.New()
	check(t, r.Copy(), "")
	for i := range len(names) {
		cut(t, r, names[i], api.Reg{Lines: []string{"of", string(names[i])}, Whole: i%2 == 0})
		was := told(t, r)
		check(t, r.Copy(), was)
		check(t, r, was)
	}
}

// TestCopyIsAnother: what is done with the one is not seen in the other, whichever it is.
func TestCopyIsAnother(t *testing.T) {
	was := `"-q 0-y 1-q 2-p a=x|z`
	for _, one := range []struct {
		what string
		do   func(r *regs.Regs)
		want string
	}{
		{"Yank of a new one", func(r *regs.Regs) { r.Yank('b', part("s")) }, `"-s 0-y 1-q 2-p a=x|z b-s`},
		{"Yank again", func(r *regs.Regs) { r.Yank('a', part("s")) }, `"-s 0-y 1-q 2-p a-s`},
		{"Yank that adds", func(r *regs.Regs) { r.Yank('A', part("s")) }, `"=x|z|s 0-y 1-q 2-p a=x|z|s`},
		{"Yank of the nameless one", func(r *regs.Regs) { r.Yank('"', part("s")) }, `"-s 0-s 1-q 2-p a=x|z`},
		{"Cut that goes on", func(r *regs.Regs) { r.Cut('"', part("s")) }, `"-s 0-y 1-s 2-q 3-p a=x|z`},
		{"Cut that adds", func(r *regs.Regs) { r.Cut('A', part("s", "t")) }, `"=x|z|s|t 0-y 1-q 2-p a=x|z|s|t`},
		{"what is refused", func(r *regs.Regs) { r.Cut('"', part(xs(most))) }, was},
	} {
		r := regs.New()
		yank(t, r, 'a', whole("x", "z"))
		yank(t, r, '"', part("y"))
		cut(t, r, '"', part("p"))
		cut(t, r, '"', part("q"))
		check(t, r, was)
		t.Log(one.what)
		o := r.Copy()
		one.do(o)
		check(t, r, was)
		check(t, o, one.want)
		o = r.Copy()
		one.do(r)
		check(t, r, one.want)
		check(t, o, was)
	}
}

// TestCopyOfNone: it is there to be filled, too.
func TestCopyOfNone(t *testing.T) {
	r := regs.New()
	o := r.Copy()
	cut(t, o, '"', part("x"))
	check(t, r, "")
	check(t, o, `"-x 1-x`)
}

func TestCopyOfACopy(t *testing.T) {
	r := regs.New()
	yank(t, r, 'a', part("x"))
	o := r.Copy()
	p := o.Copy()
	yank(t, r, 'A', part("1"))
	yank(t, o, 'A', part("2"))
	yank(t, p, 'A', whole("3"))
	check(t, r, `"-x1 a-x1`)
	check(t, o, `"-x2 a-x2`)
	check(t, p, `"=x|3 a=x|3`)
}

// TestBothAreAddedTo: a copy and what was copied, of all lengths: what is added to the one does not come behind what is in the other.
func TestBothAreAddedTo(t *testing.T) {
	for _, is := range []bool{false, true} {
		r := regs.New()
		for range 40 {
			yank(t, r, 'A', api.Reg{Lines: []string{"x", "y"}, Whole: is})
			o := r.Copy()
			yank(t, r, 'A', api.Reg{Lines: []string{"p", "q"}, Whole: is})
			was := told(t, r)
			yank(t, o, 'A', api.Reg{Lines: []string{"s", "t"}, Whole: is})
			check(t, r, was)
			check(t, o, strings.ReplaceAll(was, endOf(is, "p", "q"), endOf(is, "s", "t")))
			r = o
		}
	}
}

// endOf is how what was added last is told, behind what ends with y.
func endOf(whole bool, lines ...string) string {
	if whole {
		return "y|" + strings.Join(lines, "|")
	}
	return "y" + strings.Join(lines, "|")
}

// TestGotIsNew: what was got stays as it was, and is nobody else's, be it of one register, of two that have the same, or of a copy.
func TestGotIsNew(t *testing.T) {
	r := regs.New()
	yank(t, r, '"', whole("x", "y"))
	o := r.Copy()
	got := []api.Reg{}
	for _, of := range []*regs.Regs{r, o, r} {
		for _, name := range []byte(`"0`) {
			x, e := of.Get(name)
			if e != api.OK {
				t.Fatalf("Get(%q): error %d", name, e)
			}
			got = append(got, x)
		}
	}
	for i, x := range got {
		x.Lines[0] = string(rune('a' + i))
		_ = append(x.Lines, "more")
	}
	for i, x := range got {
		if x.Lines[0] != string(rune('a'+i)) || x.Lines[1] != "y" || !x.Whole {
			t.Errorf("what was got is %q now", x.Lines)
		}
	}
	yank(t, r, '"', part("z"))
	check(t, r, `"-z 0-z`)
	check(t, o, `"=x|y 0=x|y`)
	if got[0].Lines[0] != "a" || got[0].Lines[1] != "y" {
		t.Errorf("what was got is %q now", got[0].Lines)
	}
}
