package addr_test

import (
	"bytes"
	"fmt"
	"reflect"
	"slices"
	"strings"
	"testing"
	"unsafe"

	"emendator/addr"
	"emendator/api"
	"emendator/buf"
)

// The addresses, each with all of its fields.

func line(n int) api.Addr {
	return api.Addr{Kind: 1, N: n, C: 0, Pat: "", Off: 0, Semi: false}
}

func dot() api.Addr {
	return api.Addr{Kind: 2, N: 0, C: 0, Pat: "", Off: 0, Semi: false}
}

func end() api.Addr {
	return api.Addr{Kind: 3, N: 0, C: 0, Pat: "", Off: 0, Semi: false}
}

func mark(c byte) api.Addr {
	return api.Addr{Kind: 4, N: 0, C: c, Pat: "", Off: 0, Semi: false}
}

func fore(s string) api.Addr {
	return api.Addr{Kind: 5, N: 0, C: 0, Pat: s, Off: 0, Semi: false}
}

func back(s string) api.Addr {
	return api.Addr{Kind: 6, N: 0, C: 0, Pat: s, Off: 0, Semi: false}
}

// off is an address with an offset, semi one behind which a ; stands.

func off(a api.Addr, n int) api.Addr {
	a.Off = n
	return a
}

func semi(a api.Addr) api.Addr {
	a.Semi = true
	return a
}

// shown are addresses as tests tell them: not all, if they are many.
func shown(l []api.Addr) string { return fmt.Sprintf("%.300s", fmt.Sprintf("%+v", l)) }

// behind stands in memory behind each text that is handed in: were it read, it would be seen.
const behind = ",9/a/+1"

// lent is a text in memory that can be looked at and written afterwards.
type lent struct {
	s      string
	memory []byte
}

func lend(s string) lent { return lent{s, []byte(s + behind)} }

func (l lent) text() string { return unsafe.String(&l.memory[0], len(l.s)) }

// gone says that what was lent is as it was, and writes over it: an answer that shares memory with it is another one from then on.
func (l lent) gone(t testing.TB) {
	t.Helper()
	if string(l.memory) != l.s+behind {
		t.Errorf("%.99q was changed: it is %.99q", l.s, l.memory)
	}
	copy(l.memory, bytes.Repeat([]byte("!"), len(l.memory)))
}

// copied are addresses in memory of their own, their patterns, too.
func copied(l []api.Addr) []api.Addr {
	all := slices.Clone(l)
	for i := range all {
		all[i].Pat = strings.Clone(all[i].Pat)
	}
	return all
}

// parse is what Parse answers: the same to another call, of memory of its own, with what is handed in as it was.
func parse(t testing.TB, s string) ([]api.Addr, int, api.Errno) {
	t.Helper()
	a := lend(s)
	l, at, e := addr.Parse(a.text())
	first := copied(l)
	a.gone(t)
	if !slices.Equal(l, first) {
		t.Errorf("Parse of %.99q shares memory with what was handed in", s)
	}
	clear(l[:cap(l)])
	again, place, f := addr.Parse(s)
	if !slices.Equal(again, first) || place != at || f != e {
		t.Errorf("Parse of %.99q: %s, %d, error %d, then %s, %d, error %d", s, shown(first), at, e, shown(again), place, f)
	}
	if e != api.OK && (len(first) != 0 || at != 0) {
		t.Errorf("Parse of %.99q: %s, %d beside error %d", s, shown(first), at, e)
	}
	return first, at, e
}

func checkParse(t testing.TB, s string, at int, want ...api.Addr) {
	t.Helper()
	l, place, e := parse(t, s)
	if e != api.OK || place != at || !slices.Equal(l, want) {
		t.Errorf("Parse of %.99q: %s, %d, error %d, want %s, %d", s, shown(l), place, e, shown(want), at)
	}
}

func checkNoAddress(t testing.TB, s string) {
	t.Helper()
	if l, at, e := parse(t, s); e != api.ErrAddr {
		t.Errorf("Parse of %.99q: %s, %d, error %d, want error %d", s, shown(l), at, e, api.ErrAddr)
	}
}

// split is what Split answers, likewise.
func split(t testing.TB, s string, at int, sign byte) (string, int) {
	t.Helper()
	a := lend(s)
	is, place := addr.Split(a.text(), at, sign)
	first := strings.Clone(is)
	a.gone(t)
	if is != first {
		t.Errorf("Split of %.99q shares memory with what was handed in", s)
	}
	if again, p := addr.Split(s, at, sign); again != first || p != place {
		t.Errorf("Split of %.99q, %d, %q: %.99q, %d, then %.99q, %d", s, at, sign, first, place, again, p)
	}
	return first, place
}

func checkSplit(t testing.TB, s string, at int, sign byte, want string, place int) {
	t.Helper()
	if is, p := split(t, s, at, sign); is != want || p != place {
		t.Errorf("Split of %.99q, %d, %q: %.99q, %d, want %.99q, %d", s, at, sign, is, p, want, place)
	}
}

// compile is what Compile answers, likewise.
func compile(t testing.TB, s, last, tilde string, fold bool) (api.Prog, string, api.Errno) {
	t.Helper()
	a, b, c := lend(s), lend(last), lend(tilde)
	p, is, e := addr.Compile(a.text(), b.text(), c.text(), fold)
	first := strings.Clone(is)
	a.gone(t)
	b.gone(t)
	c.gone(t)
	if is != first {
		t.Errorf("Compile of %.99q, %.99q shares memory with what was handed in", s, last)
	}
	again, other, f := addr.Compile(s, last, tilde, fold)
	if !reflect.DeepEqual(p, again) || other != first || f != e {
		t.Errorf("Compile of %.99q, %.99q, %.99q: %.99q, error %d, then %.99q, error %d", s, last, tilde, first, e, other, f)
	}
	if e != api.OK && (!reflect.DeepEqual(p, api.Prog{}) || first != "") {
		t.Errorf("Compile of %.99q, %.99q, %.99q: %.99q, %.300v beside error %d", s, last, tilde, first, p, e)
	}
	return p, first, e
}

// text is one of lines that are written with / between, the cursor in one of them.
func text(t testing.TB, lines string, cursor int) *buf.Buf {
	t.Helper()
	return textOf(t, strings.Split(lines, "/"), cursor)
}

func textOf(t testing.TB, lines []string, cursor int) *buf.Buf {
	t.Helper()
	b, e := buf.New(lines, api.MaxUndo)
	if e != api.OK {
		t.Fatalf("no text of %.300q: error %d", lines, e)
	}
	b.Put(cursor)
	return b
}

func set(t testing.TB, b *buf.Buf, name byte, line int) {
	t.Helper()
	if e := b.Marks().Set(name, line); e != api.OK {
		t.Fatalf("Set(%q, %d): error %d", name, line, e)
	}
}

// seen is all that can be seen of a text.
func seen(b *buf.Buf) string {
	return fmt.Sprintf("%q at %d, marks %v, open %v, states %v, now %d", b.Lines(), b.Cursor(), b.Marks().All(), b.Open(), b.States().States(), b.States().Now())
}

// worded is what patterns are read with.
type worded struct {
	last, tilde string
	fold        bool
}

// eval is what Eval tells: two lines and the last pattern, or an error, beside which there must be nothing. The same call answers the same again, in memory of its own; what is handed in stays as it was, with what lies behind its length; so does the text.
func eval(t testing.TB, b *buf.Buf, l []api.Addr, w worded) string {
	t.Helper()
	was := seen(b)
	memory := append(slices.Clone(l), line(1), end())
	var lents []lent
	for i := range l {
		lents = append(lents, lend(l[i].Pat))
		memory[i].Pat = lents[i].text()
	}
	handed := copied(memory)
	last, tilde := lend(w.last), lend(w.tilde)
	from, to, is, e := addr.Eval(b, memory[:len(l)], last.text(), tilde.text(), w.fold)
	first := strings.Clone(is)
	if !slices.Equal(memory, handed) {
		t.Errorf("the addresses were changed: %s, they were %s", shown(memory), shown(handed))
	}
	for _, one := range append(lents, last, tilde) {
		one.gone(t)
	}
	clear(memory)
	if is != first {
		t.Errorf("the pattern %.99q shares memory with what was handed in", first)
	}
	from2, to2, again, e2 := addr.Eval(b, l, w.last, w.tilde, w.fold)
	if from2 != from || to2 != to || again != first || e2 != e {
		t.Errorf("Eval of %s: %d, %d, %.99q, error %d, then %d, %d, %.99q, error %d", shown(l), from, to, first, e, from2, to2, again, e2)
	}
	if now := seen(b); now != was {
		t.Errorf("the text was changed: it is %.300s, was %.300s", now, was)
	}
	if e == api.OK {
		return told(from, to, first)
	}
	if from != 0 || to != 0 || first != "" {
		t.Errorf("Eval of %s: %d, %d, %.99q beside error %d", shown(l), from, to, first, e)
	}
	return refused(e)
}

// told is what Eval tells, as the tests write it, refused an error.

func told(from, to int, last string) string { return fmt.Sprintf("%d %d %q", from, to, last) }

func refused(e api.Errno) string { return fmt.Sprintf("error %d", e) }

func checkEval(t testing.TB, b *buf.Buf, w worded, want string, l ...api.Addr) {
	t.Helper()
	if is := eval(t, b, l, w); is != want {
		t.Errorf("Eval of %s: %.300s, want %.300s", shown(l), is, want)
	}
}

// checkLines is checkEval of addresses as they are written, with no last pattern: those of the text's beginning, which are all of it.
func checkLines(t testing.TB, b *buf.Buf, s, want string) {
	t.Helper()
	l, at, e := parse(t, s)
	if e != api.OK || at != len(s) {
		t.Fatalf("Parse of %q: error %d, %d", s, e, at)
	}
	if is := eval(t, b, l, worded{}); is != want {
		t.Errorf("Eval of %q, the cursor in %d: %s, want %s", s, b.Cursor(), is, want)
	}
}
