package expand_test

import (
	"bytes"
	"fmt"
	"slices"
	"strings"
	"testing"
	"unsafe"

	"emendator/api"
	"emendator/expand"
)

// The pieces. What a kind does not name is not nought here: it must not be asked.

func text(s string) api.Tm { return api.Tm{Kind: 1, Text: s, N: 1, C: 'U'} }

func group(n int) api.Tm { return api.Tm{Kind: 2, Text: "?", N: n, C: 'U'} }

func split() api.Tm { return api.Tm{Kind: 3, Text: "?", N: 1, C: 'U'} }

func casing(c byte) api.Tm { return api.Tm{Kind: 4, Text: "?", N: 1, C: c} }

func pieces(l ...api.Tm) []api.Tm { return l }

func shown(v any) string { return fmt.Sprintf("%.300q", fmt.Sprintf("%+v", v)) }

// remembering is a match whose groups, from 0 on, remember these places, begin and end by turns; the others remember nothing. From and To are places of their own: they must not be asked.
func remembering(places ...int) api.Match {
	m := api.Match{From: 1, To: 1}
	for n := range m.Begin {
		m.Begin[n], m.End[n] = -1, -1
	}
	for i := 0; i+1 < len(places); i += 2 {
		m.Begin[i/2], m.End[i/2] = places[i], places[i+1]
	}
	return m
}

// behind stands in memory behind each text that is handed in.
const behind = "Zz"

// lent is a text in memory that can be looked at and written afterwards.
type lent struct{ memory []byte }

func lend(s string) lent { return lent{[]byte(s + behind)} }

func (l lent) text() string { return unsafe.String(&l.memory[0], len(l.memory)-len(behind)) }

func (l lent) stays(t testing.TB, s string) {
	t.Helper()
	if string(l.memory) != s+behind {
		t.Errorf("%.99q was changed: it is %.99q", s, l.memory)
	}
}

// gone writes over what was lent: an answer that shares memory with it is another one from then on.
func (l lent) gone() { copy(l.memory, bytes.Repeat([]byte("!"), len(l.memory))) }

// lentList is a list of pieces whose texts are lent. Behind it stand pieces that would be seen, were they part of it.
type lentList struct {
	memory []api.Tm
	texts  []lent
}

func lendList(l []api.Tm) lentList {
	memory := append(slices.Clone(l), text("?"), split())
	texts := make([]lent, len(l))
	for i := range l {
		texts[i] = lend(l[i].Text)
		memory[i].Text = texts[i].text()
	}
	return lentList{memory, texts}
}

func (l lentList) list() []api.Tm { return l.memory[:len(l.texts)] }

func (l lentList) stays(t testing.TB, was []api.Tm) {
	t.Helper()
	if !slices.Equal(l.memory, append(slices.Clone(was), text("?"), split())) {
		t.Errorf("%s was changed: it is %s", shown(was), shown(l.memory))
	}
	for i := range was {
		l.texts[i].stays(t, was[i].Text)
	}
}

func (l lentList) gone() {
	for _, one := range l.texts {
		one.gone()
	}
	clear(l.memory)
}

// lines is what Lines answers: the same to another call, of memory of its own, with what is handed in as it was.
func lines(t testing.TB, l []api.Tm, line string, m api.Match) []string {
	t.Helper()
	a, b := lendList(l), lend(line)
	is := expand.Lines(a.list(), b.text(), m)
	a.stays(t, l)
	b.stays(t, line)
	before := slices.Clone(is)
	for i := range before {
		before[i] = strings.Clone(before[i])
	}
	a.gone()
	b.gone()
	if !slices.Equal(is, before) {
		t.Errorf("Lines of %s, %.99q shares memory with what was handed in", shown(l), line)
	}
	clear(is[:cap(is)])
	if again := expand.Lines(l, line, m); !slices.Equal(again, before) {
		t.Errorf("Lines of %s, %.99q, %v: %s, then %s", shown(l), line, m, shown(before), shown(again))
	}
	return before
}

func check(t testing.TB, l []api.Tm, line string, m api.Match, want ...string) {
	t.Helper()
	if is := lines(t, l, line, m); !slices.Equal(is, want) {
		t.Errorf("Lines of %s, %.99q, %v: %s, want %s", shown(l), line, m, shown(is), shown(want))
	}
}

// checkPlain: of pieces that ask for no group.
func checkPlain(t testing.TB, l []api.Tm, want ...string) {
	t.Helper()
	check(t, l, "line", remembering(), want...)
	check(t, l, "", api.Match{}, want...)
}
