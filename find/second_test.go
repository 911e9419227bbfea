package find_test

import (
	"fmt"
	"math/rand"
	"slices"
	"strings"
	"testing"

	"emendator/api"
	"emendator/match"
	"emendator/tree"
)

// order says the chapter's sentence again, word by word: in which order Next tries lines.
func order(line, last int, back bool) []int {
	var all []int
	if back {
		for n := line - 1; n >= 1; n-- {
			all = append(all, n)
		}
		for n := last; n >= max(line, 1); n-- {
			all = append(all, n)
		}
		return all
	}
	for n := line + 1; n <= last; n++ {
		all = append(all, n)
	}
	for n := 1; n <= line; n++ {
		all = append(all, n)
	}
	return all
}

// tells is what is told of one line: true, false, or an error.
type tells []string

func (l tells) next(line int, back bool) string {
	if line < 0 || line > len(l) {
		return errArg
	}
	for _, n := range order(line, len(l), back) {
		if l[n-1] == "true" {
			return fmt.Sprint(n)
		}
		if l[n-1] != "false" {
			return l[n-1]
		}
	}
	return errFind
}

func (l tells) all(from, to int, not bool) string {
	if !slices.IsSorted([]int{1, from, to, len(l)}) {
		return errArg
	}
	var all []string
	for n := from; n <= to; n++ {
		switch l[n-1] {
		case fmt.Sprint(!not):
			all = append(all, fmt.Sprint(n))
		case fmt.Sprint(not):
		default:
			return l[n-1]
		}
	}
	return strings.Join(all, " ")
}

// checkEach holds Next and All, of all lines and of some that are not there, against what is told of each line.
func checkEach(t *testing.T, lines []string, p api.Prog, l tells) {
	t.Helper()
	x := tree.New(lines)
	for from := -1; from <= len(l)+1; from++ {
		for _, way := range []bool{false, true} {
			checkNext(t, x, p, from, way, l.next(from, way))
			for to := -1; to <= len(l)+1; to++ {
				checkAll(t, x, p, from, to, way, l.all(from, to, way))
			}
		}
	}
}

// TestEachText: all texts of up to four lines, each of which fits, does not, or needs too many steps.
func TestEachText(t *testing.T) {
	p := read(t, costly)
	kinds := []string{"of", "", endless}
	told := []string{"true", "false", errSteps}
	var each func(lines []string, l tells)
	each = func(lines []string, l tells) {
		checkEach(t, lines, p, l)
		if len(lines) == 4 {
			return
		}
		for k := range kinds {
			each(append(slices.Clone(lines), kinds[k]), append(slices.Clone(l), told[k]))
		}
	}
	each(nil, nil)
}

func from(p api.Prog, line string) string {
	_, _, is, e := match.From(p, line, 0, 5000)
	if e != api.OK {
		return "error " + e.Error()
	}
	return fmt.Sprint(is)
}

func someLine(r *rand.Rand) string {
	line := make([]byte, r.Intn(6))
	for i := range line {
		line[i] = "ab\x00\xff\n_"[r.Intn(6)]
	}
	return string(line)
}

// someProgram is one of any instructions, often one that is not sound.
func someProgram(r *rand.Rand) api.Prog {
	p := api.Prog{Code: make([]api.Inst, r.Intn(6)+1), Rounds: r.Intn(4), Fold: r.Intn(2) == 0}
	for i := range p.Code {
		p.Code[i] = api.Inst{Op: uint8(r.Intn(14) + 1), C: "abAB"[r.Intn(4)], Set: api.Set{0, r.Uint64(), 1}, X: r.Intn(len(p.Code)), Y: r.Intn(len(p.Code))}
	}
	p.Code[len(p.Code)-1].Op = api.InMatch
	switch r.Intn(20) {
	case 0:
		p.Code[0].Op = uint8(r.Intn(256))
	case 1:
		p.Code[0].X = int(r.Uint64())
	case 2:
		p.Rounds = int(r.Uint64())
	}
	return p
}

// TestAnyBytes: whatever the program and the lines are, each of them is told as match.From tells it, and nothing panics.
func TestAnyBytes(t *testing.T) {
	r := rand.New(rand.NewSource(6))
	seen := map[string]int{}
	for range 500 {
		p := someProgram(r)
		lines := make([]string, r.Intn(5))
		l := make(tells, len(lines))
		for i := range lines {
			lines[i] = someLine(r)
			l[i] = from(p, lines[i])
			seen[l[i]]++
			checkFits(t, p, lines[i], l[i])
		}
		checkEach(t, lines, p, l)
	}
	for _, kind := range []string{"true", "false", errArg, errSteps} {
		if seen[kind] < 20 {
			t.Errorf("of %s there were only %d", kind, seen[kind])
		}
	}
}

// TestWords: of letters alone a pattern fits where these stand in the line.
func TestWords(t *testing.T) {
	r := rand.New(rand.NewSource(7))
	word := func(most int) string {
		w := make([]byte, r.Intn(most)+1)
		for i := range w {
			w[i] = "ab"[r.Intn(2)]
		}
		return string(w)
	}
	for range 300 {
		w := word(4)
		lines := make([]string, r.Intn(20))
		l := make(tells, len(lines))
		for i := range lines {
			lines[i] = word(8)
			l[i] = fmt.Sprint(strings.Contains(lines[i], w))
		}
		x, p := tree.New(lines), read(t, w)
		for range 10 {
			line, to, way := r.Intn(len(l)+1), r.Intn(len(l)+1), r.Intn(2) == 0
			checkNext(t, x, p, line, way, l.next(line, way))
			checkAll(t, x, p, line, to, way, l.all(line, to, way))
		}
	}
}
