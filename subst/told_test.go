package subst_test

import (
	"bytes"
	"fmt"
	"reflect"
	"slices"
	"strings"
	"testing"
	"unsafe"

	"emendator/api"
	"emendator/pat"
	"emendator/prog"
	"emendator/subst"
	"emendator/tmpl"
)

// compiled is the program of a pattern; false: it is none.
func compiled(s string) (api.Prog, bool) {
	p, e, _ := pat.Parse(s, "")
	if e != api.OK {
		return api.Prog{}, false
	}
	c, e := prog.Compile(p, false)
	return c, e == api.OK
}

func read(t testing.TB, s string) api.Prog {
	t.Helper()
	p, ok := compiled(s)
	if !ok {
		t.Fatalf("%q is no pattern", s)
	}
	return p
}

// asking is all that Line is asked with.
type asking struct {
	p       api.Prog
	l       []api.Tm
	line    string
	all     bool
	ask     bool
	answers []byte
}

func (a asking) String() string {
	return fmt.Sprintf("%.200q", fmt.Sprintf("of %+v in %q (%d bytes), all %t, ask %t, %q", a.l, a.line, len(a.line), a.all, a.ask, a.answers))
}

// answer is all that Line answers.
type answer struct {
	c api.Change
	e api.Errno
}

// told is an answer as the tests write it: the lines with | between, how many were replaced, how many answers were used, over, all; or an error.
func (a answer) told() string {
	if a.e != api.OK {
		return fmt.Sprintf("error %d", a.e)
	}
	s := fmt.Sprintf("%s, %d, %d", strings.Join(a.c.Lines, "|"), a.c.Many, a.c.Used)
	if a.c.Over {
		s += ", over"
	}
	if a.c.All {
		s += ", all"
	}
	return s
}

// behind stands in memory behind each text, and each list of answers, that is handed in: were it read, it would be seen.
const behind = "ylayx"

// lent is a text, or answers, in memory that can be looked at and written afterwards.
type lent struct{ memory []byte }

func lend(s string) lent { return lent{[]byte(s + behind)} }

func (l lent) bytes() []byte { return l.memory[:len(l.memory)-len(behind)] }

func (l lent) text() string { return unsafe.String(&l.memory[0], len(l.memory)-len(behind)) }

func (l lent) stays(t testing.TB, s string) {
	t.Helper()
	if string(l.memory) != s+behind {
		t.Errorf("%.99q was changed: it is %.99q", s, l.memory)
	}
}

// gone writes over what was lent: an answer that shares memory with it is another one from then on.
func (l lent) gone() { copy(l.memory, bytes.Repeat([]byte("!"), len(l.memory))) }

// lentCode and lentPieces stand in memory that goes on behind them, with what would be seen, were it part of them.

func lentCode(p api.Prog) []api.Inst {
	return append(slices.Clone(p.Code), api.Inst{Op: api.InAny}, api.Inst{Op: api.InMatch})
}

func lentPieces(l []api.Tm) ([]api.Tm, []lent) {
	memory := append(slices.Clone(l), api.Tm{Kind: api.TmText, Text: "?"}, api.Tm{Kind: api.TmSplit})
	texts := make([]lent, len(l))
	for i := range l {
		texts[i] = lend(l[i].Text)
		memory[i].Text = texts[i].text()
	}
	return memory, texts
}

// deep is a change of memory of its own.
func deep(c api.Change) api.Change {
	c.Lines = slices.Clone(c.Lines)
	for i := range c.Lines {
		c.Lines[i] = strings.Clone(c.Lines[i])
	}
	return c
}

// asked is what Line answers: the same to another call, of memory of its own, with what is handed in as it was, and nothing beside an error.
func asked(t testing.TB, a asking) answer {
	t.Helper()
	code, line, answers := lentCode(a.p), lend(a.line), lend(string(a.answers))
	memory, texts := lentPieces(a.l)
	codeWas, memoryWas := slices.Clone(code), deepPieces(memory)
	p := a.p
	p.Code = code[:len(a.p.Code)]
	c, e := subst.Line(p, memory[:len(a.l)], line.text(), a.all, a.ask, answers.bytes())
	line.stays(t, a.line)
	answers.stays(t, string(a.answers))
	for i := range texts {
		texts[i].stays(t, a.l[i].Text)
	}
	if !slices.Equal(code, codeWas) || !slices.Equal(memory, memoryWas) {
		t.Errorf("%v: the program or the pieces were changed", a)
	}
	is := answer{deep(c), e}
	for _, one := range append(texts, line, answers) {
		one.gone()
	}
	if !reflect.DeepEqual(is.c, c) {
		t.Errorf("%v: what comes out shares memory with what was handed in", a)
	}
	clear(c.Lines[:cap(c.Lines)])
	if c, e := subst.Line(a.p, a.l, a.line, a.all, a.ask, a.answers); !reflect.DeepEqual(is, answer{deep(c), e}) {
		t.Errorf("%v: %.99q, then %.99q", a, is.told(), answer{c, e}.told())
	}
	checkShape(t, a, is)
	return is
}

func deepPieces(l []api.Tm) []api.Tm {
	l = slices.Clone(l)
	for i := range l {
		l[i].Text = strings.Clone(l[i].Text)
	}
	return l
}

// checkShape: what holds of each answer, whatever is asked.
func checkShape(t testing.TB, a asking, is answer) {
	t.Helper()
	if is.e != api.OK {
		if !reflect.DeepEqual(is.c, api.Change{}) {
			t.Errorf("%v: beside error %d there is %.99q", a, is.e, fmt.Sprint(is.c))
		}
		return
	}
	if len(is.c.Lines) < 1 || len(is.c.Lines) > 2000 {
		t.Errorf("%v: %d lines", a, len(is.c.Lines))
	}
	for _, line := range is.c.Lines {
		if len(line) > 1000 {
			t.Errorf("%v: a line of %d bytes", a, len(line))
		}
	}
	if is.c.Used > len(a.answers) || !a.ask && (is.c.Used != 0 || is.c.Over || is.c.All) {
		t.Errorf("%v: %.99q", a, is.told())
	}
	if is.c.Many == 0 && !slices.Equal(is.c.Lines, []string{a.line}) {
		t.Errorf("%v: nothing was replaced, but there is %.99q", a, is.c.Lines)
	}
}

func check(t testing.TB, a asking, want string) {
	t.Helper()
	if is := asked(t, a).told(); is != want {
		t.Errorf("%v: %.200q, want %.200q", a, is, want)
	}
}

// checkFirst is check of the first match alone, of a pattern and a replacement, with nothing asked: answers that are there are not used.
func checkFirst(t testing.TB, pattern, replacement, line, want string) {
	t.Helper()
	check(t, asking{p: read(t, pattern), l: tmpl.Parse(replacement), line: line}, want)
	check(t, asking{p: read(t, pattern), l: tmpl.Parse(replacement), line: line, answers: []byte("nalq")}, want)
}

// checkAll is checkFirst of all matches.
func checkAll(t testing.TB, pattern, replacement, line, want string) {
	t.Helper()
	check(t, asking{p: read(t, pattern), l: tmpl.Parse(replacement), line: line, all: true}, want)
	check(t, asking{p: read(t, pattern), l: tmpl.Parse(replacement), line: line, all: true, answers: []byte("nalq")}, want)
}

// checkAsked is check of all matches, each of which is asked about.
func checkAsked(t testing.TB, pattern, replacement, line, answers, want string) {
	t.Helper()
	check(t, asking{p: read(t, pattern), l: tmpl.Parse(replacement), line: line, all: true, ask: true, answers: []byte(answers)}, want)
}

// checkAskedFirst is check of the first match alone, which is asked about.
func checkAskedFirst(t testing.TB, pattern, replacement, line, answers, want string) {
	t.Helper()
	check(t, asking{p: read(t, pattern), l: tmpl.Parse(replacement), line: line, ask: true, answers: []byte(answers)}, want)
}

// The errors as they are told.
const (
	errArg   = "error 1"
	errLimit = "error 3"
	errSteps = "error 50"
	errLong  = "error 90"
)

// costly is a pattern that fits where there is an f, and needs too many steps where endless comes first.
const costly = `\vf|(x*)*y`

var endless = strings.Repeat("x", 40)
