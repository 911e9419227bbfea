package match_test

import (
	"fmt"
	"slices"
	"strings"
	"testing"

	"emendator/api"
	"emendator/match"
	"emendator/pat"
	"emendator/prog"
)

// names of the instructions, at their numbers, as the tests write them.
var names = strings.Fields("- byte any set split jump save back bol eol bow eow start gone match")

// code is a program of a text: its instructions, a name and its numbers each, with a semicolon between. The number of a byte is the byte itself (in quotes, if it is not to be seen), that of a set are its bytes. It has as many rounds as it names.
func code(text string) api.Prog {
	var p api.Prog
	for _, one := range strings.Split(text, ";") {
		word := strings.Fields(one)
		i := api.Inst{Op: uint8(slices.Index(names, word[0]))}
		switch i.Op {
		case api.InByte:
			i.C = written(word[1])[0]
		case api.InSet:
			i.Set = setOf(written(word[1]))
		default:
			fmt.Sscan(strings.Join(word[1:], " "), &i.X, &i.Y)
		}
		if i.Op == api.InStart || i.Op == api.InGone {
			p.Rounds = max(p.Rounds, i.X+1)
		}
		p.Code = append(p.Code, i)
	}
	return p
}

func written(word string) string {
	var s string
	if _, err := fmt.Sscanf(word, "%q", &s); err == nil {
		return s
	}
	return word
}

// setOf lays out a set as DOC.md says it, without package kind.
func setOf(all string) api.Set {
	var s api.Set
	for i := range len(all) {
		s[all[i]/64] |= 1 << (all[i] % 64)
	}
	return s
}

func folding(p api.Prog) api.Prog {
	p.Fold = true
	return p
}

// compiled is the program of a pattern, in which ~ stands for ab; false: it is none.
func compiled(s string) (api.Prog, bool) {
	p, e, _ := pat.Parse(s, "ab")
	if e != api.OK {
		return api.Prog{}, false
	}
	c, e := prog.Compile(p, false)
	return c, e == api.OK
}

func read(t testing.TB, s string) api.Prog {
	t.Helper()
	p, ok := compiled(s)
	if !ok {
		t.Fatalf("%q is no pattern", s)
	}
	return p
}

// text is a program, to be read.
func text(p api.Prog) string {
	all := []string{fmt.Sprintf("%d rounds, fold %t", p.Rounds, p.Fold)}
	for at, i := range p.Code {
		name := fmt.Sprint("op ", i.Op)
		if int(i.Op) < len(names) {
			name = names[i.Op]
		}
		all = append(all, fmt.Sprintf("%d: %s c%02x %x x%d y%d", at, name, i.C, i.Set, i.X, i.Y))
	}
	return strings.Join(all, "\n")
}

// call is match.At or match.From.
type call func(p api.Prog, line string, at, steps int) (api.Match, int, bool, api.Errno)

// answer is all that a call answers.
type answer struct {
	m    api.Match
	left int
	is   bool
	e    api.Errno
}

// ask is what a call answers, to a program that has other instructions in the memory behind it. What is handed in stays as it was, the same call answers the same again, and where there is no match nothing is told of one.
func ask(t testing.TB, call call, p api.Prog, line string, at, steps int) answer {
	t.Helper()
	var a, b answer
	all := append(slices.Clone(p.Code), code("save 20; save 2; any; save 3; match").Code...)
	before := slices.Clone(all)
	given := p
	given.Code = all[:len(p.Code)]
	a.m, a.left, a.is, a.e = call(given, line, at, steps)
	if !slices.Equal(all, before) {
		t.Errorf("the program was changed:\n%s", text(p))
	}
	b.m, b.left, b.is, b.e = call(p, line, at, steps)
	if a != b {
		t.Errorf("on %q at %d with %d steps: %v, then %v\n%s", line, at, steps, a, b, text(p))
	}
	if (!a.is || a.e != api.OK) && a.m != (api.Match{}) || a.e != api.OK && (a.is || a.left != 0) {
		t.Errorf("on %q at %d with %d steps: %v\n%s", line, at, steps, a, text(p))
	}
	return a
}

// told is an answer as the tests write it: From and To, groups that remember something, how many of the steps were used.
func (a answer) told(steps int) string {
	if a.e != api.OK {
		return fmt.Sprintf("error %d", a.e)
	}
	all := "none"
	if a.is {
		all = fmt.Sprintf("%d-%d", a.m.From, a.m.To)
	}
	for n := range a.m.Begin {
		if n > 0 && a.is && (a.m.Begin[n] != -1 || a.m.End[n] != -1) {
			all += fmt.Sprintf(" %d:%d-%d", n, a.m.Begin[n], a.m.End[n])
		}
	}
	return fmt.Sprintf("%s in %d", all, steps-a.left)
}

// checkCall: with all steps the call answers that; so it does with just as many as it takes, and with fewer there are too few.
func checkCall(t *testing.T, call call, p api.Prog, line string, at int, want string) {
	t.Helper()
	a := ask(t, call, p, line, at, api.MaxSteps)
	if is := a.told(api.MaxSteps); is != want {
		t.Errorf("on %q at %d: %s, want %s\n%s", line, at, is, want, text(p))
		return
	}
	if a.is && (a.m.Begin[0] != a.m.From || a.m.End[0] != a.m.To) {
		t.Errorf("on %q at %d: group 0 is %d-%d\n%s", line, at, a.m.Begin[0], a.m.End[0], text(p))
	}
	used := api.MaxSteps - a.left
	if a.e != api.OK {
		return
	}
	for steps := range used {
		if b := ask(t, call, p, line, at, steps); b.e != api.ErrSteps {
			t.Errorf("on %q at %d with %d steps of %d: %s\n%s", line, at, steps, used, b.told(steps), text(p))
		}
	}
	for _, steps := range []int{used, min(used+1, api.MaxSteps)} {
		if is := ask(t, call, p, line, at, steps).told(steps); is != want {
			t.Errorf("on %q at %d with %d steps: %s, want %s\n%s", line, at, steps, is, want, text(p))
		}
	}
}

// checkAt is checkCall of At, of a program that is written out.
func checkAt(t *testing.T, program, line string, at int, want string) {
	t.Helper()
	checkCall(t, match.At, code(program), line, at, want)
}

// checkFold is checkAt with letters that are the same whether small or great.
func checkFold(t *testing.T, program, line string, at int, want string) {
	t.Helper()
	checkCall(t, match.At, folding(code(program)), line, at, want)
}

// checkRead is checkCall of At, of a pattern, at the line's beginning; how many steps it takes is not looked at.
func checkRead(t *testing.T, s, line, want string) {
	t.Helper()
	p := read(t, s)
	a := ask(t, match.At, p, line, 0, api.MaxSteps)
	is, _, _ := strings.Cut(a.told(api.MaxSteps), " in ")
	if is != want {
		t.Errorf("%q on %q: %s, want %s\n%s", s, line, is, want, text(p))
	}
}

// checkFrom is checkRead of From.
func checkFrom(t *testing.T, s, line string, from int, want string) {
	t.Helper()
	p := read(t, s)
	a := ask(t, match.From, p, line, from, api.MaxSteps)
	is, _, _ := strings.Cut(a.told(api.MaxSteps), " in ")
	if is != want {
		t.Errorf("%q on %q from %d: %s, want %s\n%s", s, line, from, is, want, text(p))
	}
}
