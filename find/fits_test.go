package find_test

import (
	"strings"
	"testing"

	"emendator/api"
	"emendator/tree"
)

func TestFits(t *testing.T) {
	checkFits(t, read(t, "b"), "b", "true")
	checkFits(t, read(t, "b"), "abc", "true")
	checkFits(t, read(t, "b"), "aab", "true")
	checkFits(t, read(t, "b"), "aac", "false")
	checkFits(t, read(t, "b"), "B", "false")
	checkFits(t, read(t, "b"), "", "false")
	checkFits(t, read(t, "z*"), "", "true")
	checkFits(t, read(t, "z*"), "abc", "true")
	checkFits(t, read(t, "^$"), "", "true")
	checkFits(t, read(t, "^$"), "a", "false")
	checkFits(t, read(t, "^b"), "ba", "true")
	checkFits(t, read(t, "^b"), "ab", "false")
	checkFits(t, read(t, "b$"), "ab", "true")
	checkFits(t, read(t, "b$"), "ba", "false")
	checkFits(t, read(t, "$"), "ba", "true")
	checkFits(t, read(t, `\(.\)\1`), "abbc", "true")
	checkFits(t, read(t, `\(.\)\1`), "abab", "false")
	checkFits(t, read(t, `\cb`), "aB", "true")
	checkFits(t, read(t, `b.a`), "b\na", "true")
	checkFits(t, read(t, `a.$`), "\x00\xffa\xfe", "true")
}

// TestFitsWithFold: the program says whether small and great letters are the same.
func TestFitsWithFold(t *testing.T) {
	p := read(t, "b")
	p.Fold = true
	checkFits(t, p, "aB", "true")
	checkFits(t, p, "aC", "false")
	checkNext(t, text("a B c"), p, 3, false, "2")
	checkAll(t, text("b B c"), p, 1, 3, false, "1 2")
}

// TestFitsSteps: of a byte, each place at which it is not takes one step, that at which it is two.
func TestFitsSteps(t *testing.T) {
	b := read(t, "b")
	checkFits(t, b, strings.Repeat("a", 4998)+"b", "true")
	checkFits(t, b, strings.Repeat("a", 4999)+"b", errSteps)
	checkFits(t, b, strings.Repeat("a", 4999), "false")
	checkFits(t, b, strings.Repeat("a", 5000), errSteps)
	checkFits(t, read(t, costly), endless, errSteps)
	checkFits(t, read(t, costly), endless+"f", errSteps)
	checkFits(t, read(t, costly), "f"+endless, "true")
}

// TestFitsOfLoops: a program that goes on and on ends with its steps.
func TestFitsOfLoops(t *testing.T) {
	loop := api.Prog{Code: []api.Inst{{Op: api.InJump}}}
	checkFits(t, loop, "", errSteps)
	checkFits(t, loop, "a", errSteps)
	checkNext(t, text("a b"), loop, 1, false, errSteps)
	checkAll(t, text("a b"), loop, 1, 2, true, errSteps)
}

func TestFitsRefusesPrograms(t *testing.T) {
	for why, p := range unsound() {
		t.Log(why)
		checkFits(t, p, "", errArg)
		checkFits(t, p, "b", errArg)
	}
}

// TestStepsOfEachLine: each line has all steps for itself, however many the ones ahead of it took.
func TestStepsOfEachLine(t *testing.T) {
	long := strings.Repeat("a", 4999)
	x, b := tree.New([]string{long, long, "b", long, long[1:] + "b"}), read(t, "b")
	checkNext(t, x, b, 0, false, "3")
	checkNext(t, x, b, 3, false, "5")
	checkNext(t, x, b, 5, true, "3")
	checkNext(t, x, b, 2, true, "5")
	checkNext(t, x, read(t, "c"), 1, false, errFind)
	checkAll(t, x, b, 1, 5, false, "3 5")
	checkAll(t, x, b, 1, 5, true, "1 2 4")
}
