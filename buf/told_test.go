package buf_test

import (
	"fmt"
	"slices"
	"strings"
	"testing"

	"emendator/api"
	"emendator/buf"
)

// lies stands behind the lengths of lists that are handed in, gone in those that are written over.
const lies, gone = "lies behind", "written over"

// handed hands lines in, with more in the memory behind their length, says that all of it stayed as it was, and writes over it.
func handed(t testing.TB, lines []string, do func([]string)) {
	t.Helper()
	memory := append(slices.Clone(lines), lies, lies)
	was := slices.Clone(memory)
	do(memory[:len(lines)])
	if !slices.Equal(memory, was) {
		t.Fatalf("what was handed in is %.300q, was %.300q", memory, was)
	}
	overLines(memory)
}

// overLines writes over lines, and all that lies behind their length.
func overLines(lines []string) {
	lines = lines[:cap(lines)]
	for i := range lines {
		lines[i] = gone
	}
}

// over writes over changes likewise.
func over(l []api.Delta) {
	l = l[:cap(l)]
	for i, d := range l {
		overLines(d.Old)
		overLines(d.New)
		l[i] = api.Delta{At: 99, Old: []string{gone}, New: []string{gone}}
	}
}

// split are lines as the tests write them: a/b are two, nothing is one empty line; none: there are none.
func split(s string) []string {
	if s == none {
		return nil
	}
	return strings.Split(s, "/")
}

const none = "none"

// open is New of lines.
func open(t testing.TB, states int, lines ...string) *buf.Buf {
	t.Helper()
	var b *buf.Buf
	var e api.Errno
	handed(t, lines, func(lines []string) { b, e = buf.New(lines, states) })
	if e != api.OK || b == nil {
		t.Fatalf("New: error %d, %v", e, b)
	}
	return b
}

// of is a text of lines, with room for all states.
func of(t testing.TB, s string) *buf.Buf {
	t.Helper()
	return open(t, api.MaxUndo, split(s)...)
}

// splice is Splice of lines.
func splice(t testing.TB, b *buf.Buf, line, n int, lines []string) api.Errno {
	t.Helper()
	var e api.Errno
	handed(t, lines, func(lines []string) { e = b.Splice(line, n, lines) })
	return e
}

// put splices lines that are not refused.
func put(t testing.TB, b *buf.Buf, line, n int, s string) {
	t.Helper()
	if e := splice(t, b, line, n, split(s)); e != api.OK {
		t.Fatalf("Splice(%d, %d, %q): error %d", line, n, s, e)
	}
}

// commit is Commit, which makes the state of that number.
func commit(t testing.TB, b *buf.Buf, want int) {
	t.Helper()
	if seq, is := b.Commit(); seq != want || !is {
		t.Fatalf("Commit: %d, %v, want %d, true", seq, is, want)
	}
}

func set(t testing.TB, b *buf.Buf, name byte, line int) {
	t.Helper()
	if e := b.Marks().Set(name, line); e != api.OK {
		t.Fatalf("Set(%q, %d): error %d", name, line, e)
	}
}

// row is changes as the tests write them: at which line, what was there, what is put in its place; and so on.
func row(l []api.Delta) string {
	var words []string
	for _, d := range l {
		words = append(words, fmt.Sprintf("%d%q%q", d.At, d.Old, d.New))
	}
	return strings.Join(words, " ")
}

// view is all that can be seen of a text.
type view struct {
	lines               []string
	at                  int
	marks, open, states string
}

func (v view) String() string {
	return fmt.Sprintf("%.300q at %d, marks %s, open %.300s, states %s", v.lines, v.at, v.marks, v.open, v.states)
}

func (v view) same(w view) bool {
	return slices.Equal(v.lines, w.lines) && v.at == w.at && v.marks == w.marks && v.open == w.open && v.states == w.states
}

func once(b *buf.Buf) view {
	var marked, states []string
	for _, m := range b.Marks().All() {
		marked = append(marked, fmt.Sprintf("%c%d", m.Name, m.Line))
	}
	for _, s := range b.States().States() {
		states = append(states, fmt.Sprintf("%d.%d", s.Seq, s.From))
	}
	return view{
		lines:  b.Lines(),
		at:     b.Cursor(),
		marks:  strings.Join(marked, " "),
		open:   row(b.Open()),
		states: strings.Join(states, " ") + " now " + fmt.Sprint(b.States().Now()),
	}
}

// seen looks at a text twice, with what came out written over; what all calls tell agrees.
func seen(t testing.TB, b *buf.Buf) view {
	t.Helper()
	is := once(b)
	l, lines := b.Open(), b.Lines()
	for _, d := range l[:cap(l)] {
		if old, new := d.Old[:cap(d.Old)], d.New[:cap(d.New)]; slices.Contains(old, lies) || slices.Contains(new, lies) {
			t.Fatalf("behind the lists' lengths are %.300q, %.300q", old, new)
		}
	}
	over(l)
	overLines(lines)
	if again := once(b); !again.same(is) {
		t.Fatalf("it is %v, then, with what came out written over, %v", is, again)
	}
	agrees(t, b, is.lines)
	return is
}

// agrees says that Len and Line tell what Lines do, and that the cursor is in one of them.
func agrees(t testing.TB, b *buf.Buf, lines []string) {
	t.Helper()
	if len(lines) == 0 || b.Len() != len(lines) {
		t.Fatalf("Len is %d, Lines are %d", b.Len(), len(lines))
	}
	if at := b.Cursor(); at < 1 || at > len(lines) {
		t.Fatalf("the cursor is %d of %d", at, len(lines))
	}
	for n, want := range lines {
		if is, there := b.Line(n + 1); is != want || !there {
			t.Fatalf("Line(%d): %q, %v, want %q", n+1, is, there, want)
		}
	}
	for _, n := range []int{-1, 0, len(lines) + 1, len(lines) + 2} {
		if is, there := b.Line(n); is != "" || there {
			t.Fatalf("Line(%d): %q, %v", n, is, there)
		}
	}
}

// check says what lines there are, and which is the cursor's.
func check(t testing.TB, b *buf.Buf, lines string, at int) {
	t.Helper()
	is := seen(t, b)
	if !slices.Equal(is.lines, split(lines)) || is.at != at {
		t.Errorf("the text is %.300q at %d, want %.300q at %d", is.lines, is.at, split(lines), at)
	}
}

func checkMarks(t testing.TB, b *buf.Buf, want string) {
	t.Helper()
	if is := seen(t, b).marks; is != want {
		t.Errorf("the marks are %q, want %q", is, want)
	}
}

func checkOpen(t testing.TB, b *buf.Buf, want string) {
	t.Helper()
	if is := seen(t, b).open; is != want {
		t.Errorf("open is %.300s, want %.300s", is, want)
	}
}

func checkStates(t testing.TB, b *buf.Buf, want string) {
	t.Helper()
	if is := seen(t, b).states; is != want {
		t.Errorf("the states are %s, want %s", is, want)
	}
}

// stays says that a call changes nothing at all, and answers this.
func stays(t testing.TB, b *buf.Buf, want api.Errno, what string, do func() api.Errno) {
	t.Helper()
	was := seen(t, b)
	if e := do(); e != want {
		t.Errorf("%s: error %d, want %d", what, e, want)
	}
	if is := seen(t, b); !is.same(was) {
		t.Errorf("%s: the text is %v, was %v", what, is, was)
	}
}

// goes says that a call is not refused.
func goes(t testing.TB, e api.Errno) {
	t.Helper()
	if e != api.OK {
		t.Fatalf("error %d", e)
	}
}

// refused says by which error.
func refused(t testing.TB, e, want api.Errno) {
	t.Helper()
	if e != want {
		t.Fatalf("error %d, want %d", e, want)
	}
}

// many are n lines, each with its number; long is a line of n bytes.
func many(n int) []string {
	var all []string
	for i := range n {
		all = append(all, fmt.Sprint("line ", i+1))
	}
	return all
}

func long(n int) string { return strings.Repeat("\xff", n) }
