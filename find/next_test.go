package find_test

import (
	"math"
	"testing"

	"emendator/api"
	"emendator/find"
	"emendator/tree"
)

func TestExample(t *testing.T) {
	x, b := text("a b c b"), read(t, "b")
	checkNext(t, x, b, 2, false, "4")
	checkNext(t, x, b, 4, false, "2")
	checkNext(t, x, b, 2, true, "4")
}

func TestNextOneFits(t *testing.T) {
	x, b := text("a a b a a"), read(t, "b")
	for line := range 6 {
		checkNext(t, x, b, line, false, "3")
		checkNext(t, x, b, line, true, "3")
	}
}

func TestNextSomeFit(t *testing.T) {
	x, b := text("a b c b a b"), read(t, "b")
	for line, want := range []string{"2", "2", "4", "4", "6", "6", "2"} {
		checkNext(t, x, b, line, false, want)
	}
	for line, want := range []string{"6", "6", "6", "2", "2", "4", "4"} {
		checkNext(t, x, b, line, true, want)
	}
}

// TestNextOfAll: where all fit, the line that is told is the first one that is tried.
func TestNextOfAll(t *testing.T) {
	x, everywhere := text("a b c d"), read(t, "z*")
	for line, want := range []string{"1", "2", "3", "4", "1"} {
		checkNext(t, x, everywhere, line, false, want)
	}
	for line, want := range []string{"4", "4", "1", "2", "3"} {
		checkNext(t, x, everywhere, line, true, want)
	}
}

func TestNextFirstAndLastLine(t *testing.T) {
	x, b := text("b a a b"), read(t, "b")
	for line, want := range []string{"1", "4", "4", "4", "1"} {
		checkNext(t, x, b, line, false, want)
	}
	for line, want := range []string{"4", "4", "1", "1", "1"} {
		checkNext(t, x, b, line, true, want)
	}
}

// TestNextItselfComesLast: a line that fits is told of itself only if no other one does.
func TestNextItselfComesLast(t *testing.T) {
	for line := 1; line <= 4; line++ {
		for _, back := range []bool{false, true} {
			x := text("a a a a")
			x.Set(line-1, "b")
			checkNext(t, x, read(t, "b"), line, back, string(rune('0'+line)))
			other := line%4 + 1
			x.Set(other-1, "b")
			checkNext(t, x, read(t, "b"), line, back, string(rune('0'+other)))
		}
	}
}

func TestNextNoneFits(t *testing.T) {
	x, z := text("a b c b"), read(t, "z")
	for line := range 5 {
		checkNext(t, x, z, line, false, errFind)
		checkNext(t, x, z, line, true, errFind)
	}
}

func TestNextOneLine(t *testing.T) {
	x := text("a")
	for line := range 2 {
		for _, back := range []bool{false, true} {
			checkNext(t, x, read(t, "a"), line, back, "1")
			checkNext(t, x, read(t, "b"), line, back, errFind)
		}
	}
}

func TestNextNoLines(t *testing.T) {
	for _, back := range []bool{false, true} {
		checkNext(t, text(""), read(t, "z*"), 0, back, errFind)
		checkNext(t, text(""), read(t, "z*"), 1, back, errArg)
		checkNext(t, text(""), read(t, "z*"), -1, back, errArg)
		for why, p := range unsound() {
			t.Log(why)
			checkNext(t, text(""), p, 0, back, errFind)
		}
	}
}

func TestNextEmptyLine(t *testing.T) {
	x := tree.New([]string{"a", "", "a"})
	checkNext(t, x, read(t, "^$"), 3, false, "2")
	checkNext(t, x, read(t, "^$"), 1, true, "2")
}

func TestNextRefusesLines(t *testing.T) {
	x, a := text("a a a"), read(t, "a")
	for _, line := range []int{-1, -2, -3, 4, 5, 1000, math.MinInt, math.MinInt + 1, math.MaxInt, math.MaxInt - 1, 1 << 32, -1 << 32} {
		for _, back := range []bool{false, true} {
			checkNext(t, x, a, line, back, errArg)
			checkNext(t, tree.New([]string{endless}), read(t, costly), line, back, errArg)
		}
	}
}

func TestNextRefusesPrograms(t *testing.T) {
	for why, p := range unsound() {
		t.Log(why)
		for line := range 3 {
			checkNext(t, text("b b"), p, line, false, errArg)
			checkNext(t, text("b b"), p, line, true, errArg)
		}
	}
}

// TestNextFirstError: steps that run out in a line are told if it is tried ahead of one that fits, and only then.
func TestNextFirstError(t *testing.T) {
	x, p := tree.New([]string{"n", endless, "n", "f", "n"}), read(t, costly)
	for line, want := range []string{errSteps, errSteps, "4", "4", errSteps, errSteps} {
		checkNext(t, x, p, line, false, want)
	}
	for line, want := range []string{"4", "4", "4", errSteps, errSteps, "4"} {
		checkNext(t, x, p, line, true, want)
	}
}

// TestNextErrorOfTheLineItself: it is told last, too.
func TestNextErrorOfTheLineItself(t *testing.T) {
	p := read(t, costly)
	for _, back := range []bool{false, true} {
		checkNext(t, tree.New([]string{"n", endless, "n"}), p, 2, back, errSteps)
		checkNext(t, tree.New([]string{"n", endless, "f"}), p, 2, back, "3")
		checkNext(t, tree.New([]string{"f", endless, "n"}), p, 2, back, "1")
		checkNext(t, tree.New([]string{endless}), p, 1, back, errSteps)
		checkNext(t, tree.New([]string{endless}), p, 0, back, errSteps)
	}
}

// TestNextOfAChangedText: nothing is kept of the lines from one call to another.
func TestNextOfAChangedText(t *testing.T) {
	x, b := text("a b"), read(t, "b")
	checkNext(t, x, b, 1, false, "2")
	x.Insert(0, "b")
	checkNext(t, x, b, 2, false, "3")
	checkNext(t, x, b, 2, true, "1")
	x.Delete(2)
	checkNext(t, x, b, 2, false, "1")
	x.Set(0, "c")
	checkNext(t, x, b, 2, false, errFind)
	x.Splice(0, 2, nil)
	checkNext(t, x, b, 0, false, errFind)
	checkNext(t, x, b, 1, false, errArg)
}

// TestNextGoesThroughAll: from each line that fits to the next one, and so on, all that fit are come by, in their order.
func TestNextGoesThroughAll(t *testing.T) {
	const last = 2000
	lines := make([]string, last)
	for i := range lines {
		lines[i] = "a"
		if i%7 == 3 || i%31 == 5 {
			lines[i] = "xb"
		}
	}
	x, b := tree.New(lines), read(t, "b")
	want, e := find.All(x, b, 1, last, false)
	if e != api.OK || len(want) < 300 {
		t.Fatalf("%d lines fit, error %d", len(want), e)
	}
	line := 0
	for _, n := range want {
		if line, e = find.Next(x, b, line, false); line != n || e != api.OK {
			t.Fatalf("line %d, error %d, want %d", line, e, n)
		}
	}
	checkNext(t, x, b, line, false, "4")
	line = 0
	for i := range want {
		if line, e = find.Next(x, b, line, true); line != want[len(want)-1-i] || e != api.OK {
			t.Fatalf("back: line %d, error %d, want %d", line, e, want[len(want)-1-i])
		}
	}
}
