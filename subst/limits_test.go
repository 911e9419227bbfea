package subst_test

import (
	"fmt"
	"strings"
	"testing"

	"emendator/api"
	"emendator/match"
	"emendator/tmpl"
)

func times(s string, n int) string { return strings.Repeat(s, n) }

// TestLongLine: 1000 bytes are a line, 1001 are none, however they came to be.
func TestLongLine(t *testing.T) {
	checkAll(t, "b", "x", times("a", 1000), times("a", 1000)+", 0, 0")
	checkAll(t, "b", "x", times("a", 1001), errLong)
	checkAll(t, "b", "x", times("a", 999)+"b", times("a", 999)+"x, 1, 0")
	checkAll(t, "b", "x", times("a", 1000)+"b", errLong)
	checkAll(t, "b", "xy", times("a", 998)+"b", times("a", 998)+"xy, 1, 0")
	checkAll(t, "b", "xy", times("a", 999)+"b", errLong)
	checkAll(t, "b", "xy", "b"+times("a", 998), "xy"+times("a", 998)+", 1, 0")
	checkAll(t, "b", "xy", "b"+times("a", 999), errLong)
	checkAll(t, "b", "", times("a", 1000)+"b", times("a", 1000)+", 1, 0")
	checkAll(t, "b", "", times("a", 1001)+"b", errLong)
	checkAll(t, "b", times("x", 1000), "b", times("x", 1000)+", 1, 0")
	checkAll(t, "b", times("x", 1001), "b", errLong)
	checkAll(t, "b", "xy", times("b", 500), times("xy", 500)+", 500, 0")
	checkAll(t, "b", "xy", times("b", 500)+"a", errLong)
	checkFirst(t, "b", "xy", times("b", 999), "xy"+times("b", 998)+", 1, 0")
	checkFirst(t, "b", "xy", times("b", 1000), errLong)
}

// TestLongLineAmongOthers: the first, one between, the last.
func TestLongLineAmongOthers(t *testing.T) {
	x := times("x", 1000)
	checkAll(t, ",", `\r`, x+","+x+","+x, x+"|"+x+"|"+x+", 2, 0")
	checkAll(t, ",", `\r`, x+"x,"+x+","+x, errLong)
	checkAll(t, ",", `\r`, x+",x"+x+","+x, errLong)
	checkAll(t, ",", `\r`, x+","+x+","+x+"x", errLong)
	for at := range 3 {
		lines := [3]string{"a", "b", "c"}
		lines[at] = times("x", 998)
		checkAll(t, ",", lines[0]+`\r`+lines[1]+`\r`+lines[2], "-,-", "-"+lines[0]+"|"+lines[1]+"|"+lines[2]+"-, 1, 0")
		lines[at] = times("x", 1001)
		checkAll(t, ",", lines[0]+`\r`+lines[1]+`\r`+lines[2], "-,-", errLong)
	}
	checkAll(t, ",", times("x", 1000)+`\r`, "-,-", errLong)
	checkAll(t, ",", `\r`+times("x", 1000), "-,-", errLong)
	checkAll(t, ",", `\r`+times("x", 1000)+`\r`, "-,-", "-|"+times("x", 1000)+"|-, 1, 0")
}

// TestLongLineHandedIn: what counts is what the line becomes.
func TestLongLineHandedIn(t *testing.T) {
	checkAll(t, "b", "", times("b", 1001), ", 1001, 0")
	checkAll(t, `b\{60}`, "-", times("b", 1200), times("-", 20)+", 20, 0")
	checkFirst(t, "b", "", times("b", 1001), times("b", 1000)+", 1, 0")
	checkFirst(t, "b", "", times("b", 1002), errLong)
	checkAsked(t, "b", "", times("b", 1001), "l", times("b", 1000)+", 1, 1, over")
	checkAsked(t, "b", "", times("b", 1001), "nl", times("b", 1000)+", 1, 2, over")
	checkAsked(t, "b", "", times("b", 1001), "q", errLong)
	checkAsked(t, "b", "", times("b", 1001), "", errLong)
	checkAsked(t, "b", "", times("b", 1001), times("n", 1001), errLong)
	checkAsked(t, "b", "", times("b", 1001), times("n", 1000)+"y", times("b", 1000)+", 1, 1001")
}

// lined is a change of so many empty lines, by so many matches.
func lined(lines, many int) string { return fmt.Sprintf("%s, %d, 0", times("|", lines-1), many) }

// TestManyLines: 2000 are a change, 2001 are none, be they of one match or of many.
func TestManyLines(t *testing.T) {
	checkAll(t, "b", times(`\r`, 1999), "b", lined(2000, 1))
	checkAll(t, "b", times(`\r`, 2000), "b", errLimit)
	checkAll(t, "b", times(`\r`, 2001), "b", errLimit)
	checkAll(t, "b", times(`\r`, 9000), "b", errLimit)
	checkFirst(t, "b", times(`\r`, 1999), "b", lined(2000, 1))
	checkFirst(t, "b", times(`\r`, 2000), "b", errLimit)
	checkAll(t, "b", `\r`, times("b", 1999), lined(2000, 1999))
	checkAll(t, "b", `\r`, times("b", 2000), errLimit)
	checkAll(t, "b", `\r\r`, times("b", 999), lined(1999, 999))
	checkAll(t, "b", `\r\r`, times("b", 1000), errLimit)
	checkAll(t, "b", times(`\r`, 1000), "b", lined(1001, 1))
	checkAll(t, "b", times(`\r`, 1000), "bb", errLimit)
	checkFirst(t, "b", times(`\r`, 1000), "bb", times("|", 1000)+"b, 1, 0")
	checkAsked(t, "b", times(`\r`, 1000), "bb", "yn", times("|", 1000)+"b, 1, 2")
	checkAsked(t, "b", times(`\r`, 1000), "bb", "ny", "b"+times("|", 1000)+", 1, 2")
	checkAsked(t, "b", times(`\r`, 1000), "bb", "yq", times("|", 1000)+"b, 1, 2, over")
	checkAsked(t, "b", times(`\r`, 1000), "bb", "yl", errLimit)
	checkAsked(t, "b", times(`\r`, 1000), "bb", "a", errLimit)
	checkAsked(t, "b", times(`\r`, 2000), "b", "y", errLimit)
	checkAsked(t, "b", times(`\r`, 2000), "b", "l", errLimit)
	checkAsked(t, "b", times(`\r`, 2000), "b", "n", "b, 0, 1")
}

// TestManyLinesAheadOfLongOnes: too many lines are told as soon as there are, a long one at the end.
func TestManyLinesAheadOfLongOnes(t *testing.T) {
	long := times("x", 1001)
	checkAll(t, "b", long+times(`\r`, 2000), "b", errLimit)
	checkAll(t, "b", times(`\r`, 2000)+long, "b", errLimit)
	checkAll(t, "b", times(`\r`, 2000), long+"b"+long, errLimit)
	checkAll(t, "b", long+times(`\r`, 1000), "bb", errLimit)
	checkAll(t, "b", long+times(`\r`, 1999), "b", errLong)
	checkAll(t, "b", long+times(`\r`, 999), "bb", errLong)
}

// TestManyLinesAndSteps: of too many lines and too few steps the one that comes first is told.
func TestManyLinesAndSteps(t *testing.T) {
	checkAll(t, costly, times(`\r`, 2000), "f"+endless, errLimit)
	checkAll(t, costly, times(`\r`, 1000), "ff"+endless, errLimit)
	checkAll(t, costly, times(`\r`, 1999), "f"+endless, errSteps)
	checkAll(t, costly, times(`\r`, 2000), endless+"f", errSteps)
	checkAll(t, costly, times(`\r`, 1000), "f"+endless+"f", errSteps)
	checkAsked(t, costly, times(`\r`, 2000), "ff"+endless, "ny", errLimit)
	checkAsked(t, costly, times(`\r`, 2000), "ff"+endless, "nn", errSteps)
}

// TestStepsAheadOfLongLines: a long line is told at the end, so too few steps are told first, wherever that is.
func TestStepsAheadOfLongLines(t *testing.T) {
	long := times("x", 1001)
	checkAll(t, costly, long, "f"+endless, errSteps)
	checkAll(t, costly, "-", endless+times("a", 1001), errSteps)
	checkAll(t, costly, "-", "f"+times("a", 1001)+endless, errSteps)
	checkFirst(t, costly, long, "f"+endless, errLong)
	checkFirst(t, costly, "-", "f"+times("a", 1001)+endless, errLong)
	checkAsked(t, costly, long, "f"+endless, "y", errSteps)
	checkAsked(t, costly, long, "f"+endless, "l", errLong)
}

// TestStepsOfEachMatch: each search has 5000 steps for itself. Of a byte, each place at which it is not takes one step, that at which it is two.
func TestStepsOfEachMatch(t *testing.T) {
	far := times("a", 4998) + "b"
	most := times(far, 3)
	split := []api.Tm{{Kind: api.TmSplit}}
	check(t, asking{p: read(t, `a`), line: times("a", 5000), all: true}, ", 5000, 0")
	check(t, asking{p: read(t, `b`), l: split, line: most, all: true}, errLong)
	check(t, asking{p: read(t, `b`), l: split, line: far + "a" + far, all: true}, errSteps)
	check(t, asking{p: read(t, `b`), l: split, line: "a" + far, all: true}, errSteps)
	check(t, asking{p: read(t, `b`), l: split, line: most + times("a", 4999), all: true}, errLong)
	check(t, asking{p: read(t, `b`), l: split, line: most + times("a", 5000), all: true}, errSteps)
	check(t, asking{p: read(t, `b`), l: split, line: most + times("a", 5000), ask: true, answers: []byte("y")}, errLong)
}

// TestStepsThatSuffice: searches that take more than 5000 steps together, but none of them by itself.
func TestStepsThatSuffice(t *testing.T) {
	line := times(times("x", 16)+"f", 20)
	p := read(t, `\vf|x{0,8}x{0,2}y`)
	if _, left, _, _ := match.From(p, line, 0, 5000); left > 4000 {
		t.Fatalf("of 5000 steps a search leaves %d: too few are used to see anything", left)
	}
	check(t, asking{p: p, l: tmpl.Parse("-"), line: line, all: true}, times(times("x", 16)+"-", 20)+", 20, 0")
}

// TestVeryLongReplacement: what is too long is refused, however often it would be laid.
func TestVeryLongReplacement(t *testing.T) {
	checkAll(t, "b", times("x", 50000), times("b", 1000), errLong)
	checkAll(t, "b", times("&", 3000), times("b", 1000), errLong)
}
