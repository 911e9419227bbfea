package tmpl_test

import (
	"bytes"
	"fmt"
	"slices"
	"strings"
	"testing"
	"unsafe"

	"emendator/api"
	"emendator/tmpl"
)

// The pieces, each with all of its fields.

func text(s string) api.Tm { return api.Tm{Kind: 1, Text: s, N: 0, C: 0} }

func group(n int) api.Tm { return api.Tm{Kind: 2, Text: "", N: n, C: 0} }

func split() api.Tm { return api.Tm{Kind: 3, Text: "", N: 0, C: 0} }

func casing(c byte) api.Tm { return api.Tm{Kind: 4, Text: "", N: 0, C: c} }

func shown(l []api.Tm) string { return fmt.Sprintf("%#v", l) }

// lent is a text in memory that can be looked at and written afterwards. Behind it stand bytes that would be read as pieces, were they part of it.
type lent struct{ memory []byte }

func lend(s string) lent { return lent{[]byte(s + `~&\1\r~`)} }

func (l lent) text() string { return unsafe.String(&l.memory[0], len(l.memory)-len(`~&\1\r~`)) }

func (l lent) stays(t testing.TB, s string) {
	t.Helper()
	if string(l.memory) != s+`~&\1\r~` {
		t.Errorf("%.99q was changed: it is %.99q", s, l.memory)
	}
}

// gone writes over what was lent: an answer that shares memory with it is another one from then on.
func (l lent) gone() { copy(l.memory, bytes.Repeat([]byte("!"), len(l.memory))) }

// resolve is what Resolve answers: the same to another call, of memory of its own, with what is handed in as it was.
func resolve(t testing.TB, s, last string) string {
	t.Helper()
	a, b := lend(s), lend(last)
	is := tmpl.Resolve(a.text(), b.text())
	a.stays(t, s)
	b.stays(t, last)
	before := strings.Clone(is)
	a.gone()
	b.gone()
	if is != before {
		t.Errorf("Resolve of %.99q, %.99q shares memory with what was handed in", s, last)
	}
	if again := tmpl.Resolve(s, last); again != before {
		t.Errorf("Resolve of %.99q, %.99q: %.99q, then %.99q", s, last, before, again)
	}
	return before
}

// parse is what Parse answers: the same to another call, of memory of its own, with what is handed in as it was.
func parse(t testing.TB, s string) []api.Tm {
	t.Helper()
	a := lend(s)
	is := tmpl.Parse(a.text())
	a.stays(t, s)
	before := slices.Clone(is)
	for i := range before {
		before[i].Text = strings.Clone(before[i].Text)
	}
	a.gone()
	if !slices.Equal(is, before) {
		t.Errorf("Parse of %.99q shares memory with what was handed in", s)
	}
	clear(is[:cap(is)])
	if again := tmpl.Parse(s); !slices.Equal(again, before) {
		t.Errorf("Parse of %.99q: %.300s, then %.300s", s, shown(before), shown(again))
	}
	return before
}

func checkResolve(t *testing.T, s, last, want string) {
	t.Helper()
	if is := resolve(t, s, last); is != want {
		t.Errorf("Resolve of %.99q, %.99q: %.99q, want %.99q", s, last, is, want)
	}
}

func checkParse(t *testing.T, s string, want ...api.Tm) {
	t.Helper()
	if is := parse(t, s); !slices.Equal(is, want) {
		t.Errorf("Parse of %.99q: %.300s, want %.300s", s, shown(is), shown(want))
	}
}
