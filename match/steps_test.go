package match_test

import (
	"math"
	"strings"
	"testing"

	"emendator/api"
	"emendator/match"
	"emendator/prog"
)

// both are the calls, as the tests go through them.
var both = map[string]call{"At": match.At, "From": match.From}

// TestNoSteps: there is no program that ends without one.
func TestNoSteps(t *testing.T) {
	for _, program := range []string{"match", "any; match", "jump 0", "eol; match", "split 0 0; match"} {
		for name, call := range both {
			if a := ask(t, call, code(program), "", 0, 0); a.e != api.ErrSteps {
				t.Errorf("%s: %s: %s", name, program, a.told(0))
			}
		}
	}
	if api.ErrSteps != 50 {
		t.Errorf("ErrSteps is %d", api.ErrSteps)
	}
}

// TestAllSteps: 5000 may be asked for, and are all there.
func TestAllSteps(t *testing.T) {
	again := code("any; jump 0")
	for line, want := range map[int]string{2499: "none in 4999", 2500: "error 50", 3000: "error 50"} {
		if is := ask(t, match.At, again, strings.Repeat("a", line), 0, 5000).told(5000); is != want {
			t.Errorf("a line of %d: %s, want %s", line, is, want)
		}
	}
	if is := ask(t, match.At, again, strings.Repeat("a", 2500), 1, 5000).told(5000); is != "none in 4999" {
		t.Errorf("a line of 2500 at 1: %s", is)
	}
	most := api.Prog{Code: make([]api.Inst, 2000)}
	for i := range most.Code {
		most.Code[i].Op = api.InAny
	}
	most.Code[1999].Op = api.InMatch
	checkSteps := func(program api.Prog, line string, want string) {
		t.Helper()
		if is := ask(t, match.From, program, line, 0, 5000).told(5000); is != want {
			t.Errorf("a line of %d: %s, want %s", len(line), is, want)
		}
	}
	checkSteps(most, strings.Repeat("a", 1999), "0-1999 in 2000")
	checkSteps(code("byte b; match"), strings.Repeat("a", 4999), "none in 5000")
	checkSteps(code("byte b; match"), strings.Repeat("a", 5000), "error 50")
	checkSteps(code("byte b; match"), strings.Repeat("a", 4998)+"b", "4998-4999 in 5000")
	checkSteps(code("byte b; match"), strings.Repeat("a", 4999)+"b", "error 50")
}

// TestStepsAreLeftForNone: what fails with its last step, and leaves no try, is no match, not an error.
func TestStepsAreLeftForNone(t *testing.T) {
	for program, steps := range map[string]int{"byte x; match": 1, "any; byte x; match": 2, "split 1 2; byte x; byte y; match": 3} {
		if a := ask(t, match.At, code(program), "a", 0, steps); a != (answer{}) {
			t.Errorf("%s: %v", program, a)
		}
	}
	if a := ask(t, match.From, code("byte x; match"), "ab", 0, 3); a != (answer{}) {
		t.Errorf("From: %v", a)
	}
	if a := ask(t, match.From, code("byte x; match"), "ab", 0, 2); a.e != api.ErrSteps {
		t.Errorf("From: %v", a)
	}
}

// TestEachInstructionIsAStep: also the last one, and those that fail.
func TestEachInstructionIsAStep(t *testing.T) {
	for _, one := range []string{
		"byte a", "any", "set a", "split 1 1", "split 1 2", "jump 1", "save 2", "bol", "bow", "start 0",
	} {
		checkAt(t, one+"; match; match", "a", 0, map[bool]string{true: "0-1 in 2", false: "0-0 in 2"}[one == "byte a" || one == "any" || one == "set a"])
	}
	for _, one := range []string{"byte b", "set b", "back 1", "eol", "eow", "gone 0"} {
		checkAt(t, one+"; match", "a", 0, "none in 1")
	}
	checkAt(t, "back 1; match", "a", 1, "none in 1")
	checkAt(t, "eol; match", "a", 1, "1-1 in 2")
	checkAt(t, "eow; match", "a", 1, "1-1 in 2")
	checkAt(t, "gone 0; match", "a", 1, "1-1 in 2")
	checkAt(t, "any; match", "a", 1, "none in 1")
	checkAt(t, "bol; match", "a", 1, "none in 1")
	checkAt(t, "bow; match", "a", 1, "none in 1")
}

// TestRoundAndRound: what does not end by itself ends without steps; so does what lays aside a try at each of them.
func TestRoundAndRound(t *testing.T) {
	for _, program := range []string{
		"jump 0", "jump 1; jump 0", "split 0 0; match", "split 0 1; match", "split 0 0; jump 0", "split 2 1; match; jump 0",
		"start 0; jump 0", "save 2; save 3; back 1; jump 0", "bol; jump 0", "start 0; split 0 0; match", "start 0; split 0 2; gone 0; match",
	} {
		for name, call := range both {
			for _, fold := range []bool{false, true} {
				p := code(program)
				p.Fold, p.Rounds = fold, 2000
				if a := ask(t, call, p, "abc", 0, 5000); a.e != api.ErrSteps {
					t.Errorf("%s: %s: %s", name, program, a.told(5000))
				}
			}
		}
	}
}

// TestVeryManyWays: a pattern with more ways than there are steps.
func TestVeryManyWays(t *testing.T) {
	for _, s := range []string{`\v(a*)*b`, `\v(a|a)*b`, `\v(a{-}){-}b`, `\v(a=){60}a{60}b`} {
		a := ask(t, match.At, read(t, s), strings.Repeat("a", 30), 0, 5000)
		if a.e != api.ErrSteps {
			t.Errorf("%q: %s", s, a.told(5000))
		}
	}
}

func TestStepsThatAreRefused(t *testing.T) {
	for _, steps := range []int{-1, -2, -5000, 5001, 10000, math.MinInt, math.MaxInt, math.MinInt32, math.MaxInt32, 1 << 32, 1<<32 + 1} {
		for name, call := range both {
			if a := ask(t, call, code("match"), "a", 0, steps); a.e != api.ErrArg {
				t.Errorf("%s with %d steps: %v", name, steps, a)
			}
		}
	}
	for _, steps := range []int{1, 4999, 5000} {
		for name, call := range both {
			if a := ask(t, call, code("match"), "a", 0, steps); a.e != api.OK || !a.is || a.left != steps-1 {
				t.Errorf("%s with %d steps: %v", name, steps, a)
			}
		}
	}
}

func TestPlacesThatAreRefused(t *testing.T) {
	for _, line := range []string{"", "a", "abc", "\x00\xff"} {
		n := len(line)
		for _, at := range []int{-1, -2, -n - 1, n + 1, n + 2, 2*n + 2, math.MinInt, math.MaxInt, math.MaxInt32, 1 << 32} {
			for name, call := range both {
				for _, steps := range []int{0, 5, 5000} {
					if a := ask(t, call, code("match"), line, at, steps); a.e != api.ErrArg {
						t.Errorf("%s %q at %d: %v", name, line, at, a)
					}
				}
			}
		}
		for at := range n + 1 {
			for name, call := range both {
				if is := ask(t, call, code("match"), line, at, 5).told(5); !strings.HasSuffix(is, " in 1") {
					t.Errorf("%s %q at %d: %s", name, line, at, is)
				}
			}
		}
	}
}

// unsound are programs with one fault each.
func unsound() map[string]api.Prog {
	all := map[string]api.Prog{
		"nothing":         {},
		"no instruction":  {Rounds: 1},
		"rounds below 0":  {Code: code("match").Code, Rounds: -1},
		"too many rounds": {Code: code("match").Code, Rounds: 2001},
		"too long":        {Code: make([]api.Inst, 2001)},
		"no round":        {Code: code("start 0; match").Code},
		"an Op of 0":      {Code: []api.Inst{{}, {Op: api.InMatch}}},
		"an Op of 15":     {Code: []api.Inst{{Op: 15}, {Op: api.InMatch}}},
		"an Op of 255":    {Code: []api.Inst{{Op: api.InMatch}, {Op: 255}, {Op: api.InMatch}}},
	}
	for i := range all["too long"].Code {
		all["too long"].Code[i].Op = api.InMatch
	}
	for _, wrong := range []string{
		"split 2 0; match", "split 0 2; match", "split -1 0; match", "split 0 -1; match", "jump 2; match", "jump -1; match", "jump 1",
		"save 22; match", "save -1; match", "back 10; match", "back -1; match", "start -1; match", "gone -1; match",
		"byte a", "any", "set a", "match; any", "save 2", "bol", "match; split 0 0", "eol", "match; bow", "match; eow", "back 1", "match; start 0", "match; gone 0",
		"split 9223372036854775807 0; match", "jump -9223372036854775808; match", "save 9223372036854775807; match", "back 9223372036854775807; match",
	} {
		all[wrong] = code(wrong)
	}
	return all
}

// TestProgramsThatAreRefused: wherever the fault stands, also where no try would come.
func TestProgramsThatAreRefused(t *testing.T) {
	for fault, p := range unsound() {
		if prog.Sound(p) {
			t.Errorf("%s: is sound", fault)
		}
		for name, call := range both {
			for _, line := range []string{"", "abc"} {
				for _, steps := range []int{0, 1, 5000, -1, 5001} {
					for _, at := range []int{0, len(line), -1, len(line) + 1} {
						if a := ask(t, call, p, line, at, steps); a.e != api.ErrArg {
							t.Errorf("%s: %s: %v", name, fault, a)
						}
					}
				}
			}
		}
	}
}

// TestGreatPrograms: 2000 instructions, 2000 rounds, each of which begins at a place of its own.
func TestGreatPrograms(t *testing.T) {
	p := api.Prog{Rounds: 2000}
	for n := range 666 {
		p.Code = append(p.Code, api.Inst{Op: api.InSplit, X: 3*n + 1, Y: 3*n + 2}, api.Inst{Op: api.InStart, X: 3 * n}, api.Inst{Op: api.InAny})
	}
	p.Code = append(p.Code, api.Inst{Op: api.InGone, X: 3 * 665}, api.Inst{Op: api.InMatch})
	if len(p.Code) != 2000 {
		t.Fatal(len(p.Code))
	}
	if is := ask(t, match.At, p, strings.Repeat("a", 1000), 0, 5000).told(5000); is != "0-666 in 2000" {
		t.Error(is)
	}
	if is := ask(t, match.At, p, strings.Repeat("a", 665), 0, 5000).told(5000); is != "error 50" {
		t.Error(is)
	}
	p.Code[1998].X = 1999
	if is := ask(t, match.At, p, strings.Repeat("a", 1000), 334, 5000).told(5000); is != "334-1000 in 2000" {
		t.Error(is)
	}
}
