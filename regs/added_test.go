package regs_test

import (
	"slices"
	"testing"

	"emendator/api"
	"emendator/regs"
)

// checkAdded is of a register with these in it, one added behind the other: what is then in it, and in the nameless one, and that there is no more.
func checkAdded(t *testing.T, want string, all ...api.Reg) {
	t.Helper()
	for way, do := range ways() {
		for name := byte('a'); name <= 'z'; name++ {
			r := regs.New()
			for _, x := range all {
				do(t, r, name-32, x)
			}
			t.Log(way)
			check(t, r, `"`+want+` `+string(name)+want)
		}
	}
}

// TestAddedToNothing: what is handed in is in it, Whole or not.
func TestAddedToNothing(t *testing.T) {
	checkAdded(t, "=x", whole("x"))
	checkAdded(t, "-x", part("x"))
	checkAdded(t, "=x|y|z", whole("x", "y", "z"))
	checkAdded(t, "-x|y|z", part("x", "y", "z"))
	checkAdded(t, "-", part())
	checkAdded(t, "=", whole(""))
}

// TestAddedWhole: both are Whole, or the one, or the other.
func TestAddedWhole(t *testing.T) {
	checkAdded(t, "=x|y", whole("x"), whole("y"))
	checkAdded(t, "=x|y", whole("x"), part("y"))
	checkAdded(t, "=x|y", part("x"), whole("y"))
	checkAdded(t, "=p|q|x|y|z", whole("p", "q"), part("x", "y", "z"))
	checkAdded(t, "=p|q|x|y|z", part("p", "q"), whole("x", "y", "z"))
	checkAdded(t, "=|", whole(""), part(""))
	checkAdded(t, "=|", part(""), whole(""))
}

// TestAddedPart: neither is Whole: the last line of the one and the first of the other are one line.
func TestAddedPart(t *testing.T) {
	checkAdded(t, "-xy", part("x"), part("y"))
	checkAdded(t, "-p|qx", part("p", "q"), part("x"))
	checkAdded(t, "-px|y", part("p"), part("x", "y"))
	checkAdded(t, "-p|qx|y|z", part("p", "q"), part("x", "y", "z"))
	checkAdded(t, "-p||x", part("p", ""), part("", "x"))
	checkAdded(t, "-", part(""), part(""))
	checkAdded(t, "-x", part(""), part("x"))
	checkAdded(t, "-x", part("x"), part(""))
}

// TestAddedMany: one behind the other; once Whole lines are among them, it stays Whole.
func TestAddedMany(t *testing.T) {
	checkAdded(t, "-abc", part("a"), part("b"), part("c"))
	checkAdded(t, "-a|bc|de|f", part("a", "b"), part("c", "d"), part("e", "f"))
	checkAdded(t, "=a|b|c|d", whole("a"), part("b"), part("c"), part("d"))
	checkAdded(t, "=ab|c|d", part("a"), part("b"), whole("c"), part("d"))
}

// TestAddedNoLines: as one empty line that is not Whole, said to be or not.
func TestAddedNoLines(t *testing.T) {
	for _, none := range []api.Reg{{}, {Whole: true}, {Lines: []string{}}, {Lines: []string{}, Whole: true}} {
		checkAdded(t, "-x", part("x"), none)
		checkAdded(t, "-x|y", part("x", "y"), none)
		checkAdded(t, "=x|", whole("x"), none)
		checkAdded(t, "-x", none, part("x"))
		checkAdded(t, "=|x", none, whole("x"))
		checkAdded(t, "-", none, none)
		checkAdded(t, "=|x||", none, whole("x"), none, none)
	}
}

// TestSmallLetterIsNotAdded: what was in its register is gone.
func TestSmallLetterIsNotAdded(t *testing.T) {
	for way, do := range ways() {
		r := regs.New()
		do(t, r, 'a', whole("x"))
		do(t, r, 'A', part("y"))
		do(t, r, 'a', part("z"))
		t.Log(way)
		check(t, r, `"-z a-z`)
		do(t, r, 'A', part("1"))
		check(t, r, `"-z1 a-z1`)
	}
}

// TestAddedToItsOwn: to what is in its small letter's register, not to what is in the nameless one or in another.
func TestAddedToItsOwn(t *testing.T) {
	for way, do := range ways() {
		r := regs.New()
		do(t, r, 'a', part("x"))
		do(t, r, 'b', whole("y"))
		do(t, r, 'A', part("z"))
		t.Log(way)
		check(t, r, `"-xz a-xz b=y`)
		do(t, r, 'C', part("p"))
		check(t, r, `"-p a-xz b=y c-p`)
		do(t, r, 'B', part("q"))
		check(t, r, `"=y|q a-xz b=y|q c-p`)
	}
}

// TestAddedNotIntoNumbers: 0 has nothing of it, nor do 1 to 9.
func TestAddedNotIntoNumbers(t *testing.T) {
	r := filled(t)
	want := contents(t, r)
	yank(t, r, 'K', whole("x"))
	cut(t, r, 'K', whole("y"))
	want['k'] = whole("of", "k", "x", "y")
	want['"'] = want['k']
	checkAll(t, r, want)
}

// TestAddedWhileAnotherHasTheSame: the nameless one had the same lines; what is added to the letter's once, and to it again, is not seen in what came of it elsewhere.
func TestAddedWhileAnotherHasTheSame(t *testing.T) {
	r := regs.New()
	yank(t, r, 'a', part("x", "y"))
	got, _ := r.Get('a')
	o := r.Copy()
	yank(t, r, 'A', part("z", "p"))
	yank(t, o, 'A', part("Z", "P"))
	check(t, r, `"-x|yz|p a-x|yz|p`)
	check(t, o, `"-x|yZ|P a-x|yZ|P`)
	yank(t, r, 'b', part("q"))
	yank(t, r, 'A', whole("s"))
	check(t, r, `"=x|yz|p|s a=x|yz|p|s b-q`)
	if !slices.Equal(got.Lines, []string{"x", "y"}) {
		t.Errorf("what was got is %q now", got.Lines)
	}
}

// TestAddedToItself: what was got is handed in again.
func TestAddedToItself(t *testing.T) {
	r := regs.New()
	yank(t, r, 'a', part("x", "y"))
	x, _ := r.Get('a')
	if e := r.Yank('A', x); e != api.OK {
		t.Fatalf("error %d", e)
	}
	check(t, r, `"-x|yx|y a-x|yx|y`)
	x, _ = r.Get('A')
	if e := r.Cut('"', x); e != api.OK {
		t.Fatalf("error %d", e)
	}
	x.Lines[0] = "written over"
	check(t, r, `"-x|yx|y 1-x|yx|y a-x|yx|y`)
}
