package edit_test

import (
	"strings"
	"testing"

	"emendator/api"
	"emendator/buf"
	"emendator/regs"
)

// TestOpen: what commands change is open, one behind the other; none of them makes a state, that is for others to do.
func TestOpen(t *testing.T) {
	d := of(t, "a/b/c")
	d.goes(t, named("pu"), 3, 3, 0)
	d.goes(t, named("m"), 1, 1, 2)
	d.goes(t, named("j"), 2, 2, 0)
	d.goes(t, named("k").reg('z'), 2, 2, 0)
	d.goes(t, shifted(">"), 1, 1, 0)
	d.goes(t, named("t"), 1, 1, 0)
	d.goes(t, named("d"), 2, 3, 0)
	d.check(t, "\tb/x/y", 2, "")
	d.checkOpen(t, `3[]["x" "y"] 0["a" "b"]["b" "a"] 1["a" "c"]["a c"] 0["b"]["\tb"] 0[]["\tb"] 1["\tb" "a c"][]`)
	if seq, is := d.b.Commit(); seq != 1 || !is {
		t.Fatalf("Commit: %d, %t", seq, is)
	}
	if e := d.b.Undo(); e != api.OK || strings.Join(d.b.Lines(), "/") != "a/b/c" {
		t.Errorf("Undo: error %d, %q", e, d.b.Lines())
	}
	if e := d.b.Redo(); e != api.OK || strings.Join(d.b.Lines(), "/") != "\tb/x/y" {
		t.Errorf("Redo: error %d, %q", e, d.b.Lines())
	}
}

// TestBack: lines, marks and cursor go back; registers do not.
func TestBack(t *testing.T) {
	for _, name := range names {
		d := of(t, "a/b/c")
		was := d.view()
		if _, e := d.do(t, command(name), 1, 2, 3); e != api.OK {
			t.Fatalf("%q: error %d", name, e)
		}
		then := held(d.r)
		d.b.Back()
		was.held = then
		if is := d.view(); !is.same(was) {
			t.Errorf("%q, Back: %v, want %v", name, is, was)
		}
	}
}

// TestRefusedBesideOpen: what was open stays so, if what comes then is refused.
func TestRefusedBesideOpen(t *testing.T) {
	d := of(t, "a/b/c")
	d.goes(t, named("t"), 1, 1, 0)
	d.goes(t, named("d").reg('q'), 4, 4, 0)
	for _, c := range []made{named("d").reg('%'), named("y").reg('%'), named("k"), named("pu").reg('b'), named("zz"), named("p").count(0), shifted(">").count(0)} {
		if _, e := d.do(t, c, 1, 2, 0); e == api.OK {
			t.Errorf("%q is not refused", c.Name)
		}
	}
	d.refuses(t, api.ErrMove, named("m"), 1, 2, 1)
	d.refuses(t, api.ErrRange, named("j"), 3, 3, 1)
	d.checkOpen(t, `0[]["a"] 3["c"][]`)
	d.checkHeld(t, `"=c 0=x/y q=c`)
}

// TestTwoDesks have nothing to do with one another; one text may stand beside the registers of another.
func TestTwoDesks(t *testing.T) {
	one, two := of(t, "a/b/c/d/e"), of(t, "a/b/c/d/e")
	was := two.view()
	for _, name := range names {
		if _, e := one.do(t, command(name), 1, 2, 3); e != api.OK {
			t.Fatalf("%q: error %d", name, e)
		}
	}
	if is := two.view(); !is.same(was) {
		t.Errorf("the other one is %v, was %v", is, was)
	}
	both := desk{two.b, one.r}
	both.goes(t, named("y").reg('q'), 5, 5, 0)
	two.checkHeld(t, `"=x/y 0=x/y`)
	one.goes(t, named("pu").reg('q'), 0, 0, 0)
	if line, _ := one.b.Line(1); line != "e" {
		t.Errorf("line 1 is %q", line)
	}
}

// TestRegisterStays: what is put is not what is in the register: it changes, that stays, and the other way round.
func TestRegisterStays(t *testing.T) {
	d := of(t, "a/b")
	d.goes(t, named("y").reg('q'), 1, 2, 0)
	d.goes(t, shifted(">"), 1, 2, 0)
	d.checkHeld(t, `"=a/b 0=x/y q=a/b`)
	d.goes(t, named("pu").reg('q'), 0, 0, 0)
	d.goes(t, shifted(">>"), 1, 1, 0)
	d.checkHeld(t, `"=a/b 0=x/y q=a/b`)
	d.goes(t, named("y").reg('Q'), 1, 1, 0)
	d.checkHeld(t, "\"=a/b/\t\ta 0=x/y q=a/b/\t\ta")
	d.check(t, "\t\ta/b/\ta/\tb", 1, "a3 b4")
}

// TestNoLinesAtAll: a text may be left with none, if others change its states; no call panics, none finds a line in it.
func TestNoLinesAtAll(t *testing.T) {
	empty := func() desk {
		b, e := buf.New([]string{"a", "b"}, 9)
		if e != api.OK {
			t.Fatal(e)
		}
		b.States().Add([]api.Delta{{New: []string{"a", "b"}}})
		if e := b.Undo(); e != api.OK || b.Len() != 0 {
			t.Fatalf("Undo: error %d, %q", e, b.Lines())
		}
		d := desk{b, regs.New()}
		d.holds(t, '"', true, "x/y")
		return d
	}
	for _, name := range all() {
		for from := -1; from <= 2; from++ {
			for to := -1; to <= 2; to++ {
				for dest := -1; dest <= 2; dest++ {
					d := empty()
					_, e := d.do(t, command(name), from, to, dest)
					zero := name == "" || name == "pu" || name == "="
					if want := !zero || from != 0 || to != 0; (e == api.ErrRange) != want {
						t.Errorf("%q of %d to %d: error %d", name, from, to, e)
					}
				}
			}
		}
	}
	d := empty()
	d.goes(t, named("pu"), 0, 0, 0)
	if is := d.view(); strings.Join(is.lines, "/") != "x/y" || is.at != 2 {
		t.Errorf("pu: %v", is)
	}
}
