package edit_test

import (
	"bytes"
	"fmt"
	"slices"
	"strings"
	"testing"
	"unsafe"

	"emendator/api"
	"emendator/buf"
	"emendator/edit"
	"emendator/regs"
)

// behind stands in memory behind each text that is handed in: were it read, it would be seen.
const behind = "\t x)"

// lent is a text in memory that can be looked at and written afterwards.
type lent struct {
	s      string
	memory []byte
}

func lend(s string) lent { return lent{strings.Clone(s), []byte(s + behind)} }

func (l lent) text() string { return unsafe.String(&l.memory[0], len(l.s)) }

// gone says that what was lent is as it was, and writes over it: an answer that shares memory with it is another one from then on.
func (l lent) gone(t testing.TB) {
	t.Helper()
	if string(l.memory) != l.s+behind {
		t.Errorf("%.99q was changed: it is %.99q", l.s, l.memory)
	}
	copy(l.memory, bytes.Repeat([]byte{0xee}, len(l.memory)))
}

// join is what Join answers: the same to another call, of memory of its own.
func join(t testing.TB, a, b string, bold bool) string {
	t.Helper()
	x, y := lend(a), lend(b)
	is := edit.Join(x.text(), y.text(), bold)
	first := strings.Clone(is)
	x.gone(t)
	y.gone(t)
	if again := edit.Join(a, b, bold); is != first || again != first {
		t.Errorf("Join of %.99q, %.99q: %.99q, then %.99q, %.99q", a, b, first, is, again)
	}
	return first
}

// shift is what Shift answers, likewise.
func shift(t testing.TB, s string, times int, back bool) string {
	t.Helper()
	x := lend(s)
	is := edit.Shift(x.text(), times, back)
	first := strings.Clone(is)
	x.gone(t)
	if again := edit.Shift(s, times, back); is != first || again != first {
		t.Errorf("Shift of %.99q, %d: %.99q, then %.99q, %.99q", s, times, first, is, again)
	}
	return first
}

// made is a command as the tests write it: of its fields those are said that are not zero, Count is -1 if it is not said.
type made struct{ api.Cmd }

func named(name string) made { return made{api.Cmd{Name: name, Count: -1}} }

func (m made) bang() made {
	m.Bang = true
	return m
}

func (m made) reg(c byte) made {
	m.Reg = c
	return m
}

func (m made) count(n int) made {
	m.Count = n
	return m
}

func (m made) arg(s string) made {
	m.Arg = s
	return m
}

// shifted is > or <, with as many of its sign as it has.
func shifted(signs string) made { return named(signs[:1]).arg(signs) }

// names are those of commands on lines.
var names = []string{"", "p", "=", "d", "y", "m", "t", "j", "pu", "k", ">", "<"}

// command is one of that name that would be done in lines that are there.
func command(name string) made {
	switch name {
	case "k":
		return named(name).reg('x')
	case ">", "<":
		return shifted(name)
	}
	return named(name)
}

// desk is a text, and registers.
type desk struct {
	b *buf.Buf
	r *regs.Regs
}

// laidOut is a desk with these lines, in the last of which the cursor is. Each of the first 26 has a mark, a for the first one.
func laidOut(t testing.TB, lines ...string) desk {
	t.Helper()
	b, e := buf.New(lines, api.MaxUndo)
	if e != api.OK {
		t.Fatalf("New: error %d", e)
	}
	for n := range min(26, b.Len()) {
		b.Marks().Set(byte('a'+n), n+1)
	}
	b.Put(b.Len())
	b.Commit()
	return desk{b, regs.New()}
}

// of is one of lines as the tests write them: a/b are two, nothing is one empty line. In the register " is x, y, whole.
func of(t testing.TB, s string) desk {
	t.Helper()
	d := laidOut(t, strings.Split(s, "/")...)
	d.holds(t, '"', true, "x/y")
	return d
}

// holds has lines in a register.
func (d desk) holds(t testing.TB, name byte, whole bool, s string) {
	t.Helper()
	if e := d.r.Yank(name, api.Reg{Lines: strings.Split(s, "/"), Whole: whole}); e != api.OK {
		t.Fatalf("Yank(%q, %.99q): error %d", name, s, e)
	}
}

// view is all that can be seen of a desk.
type view struct {
	lines                     []string
	at                        int
	marks, open, states, held string
}

func (v view) String() string {
	return fmt.Sprintf("%s at %d, marks %s, open %.300s, states %s, registers %.300s", brief(v.lines), v.at, v.marks, v.open, v.states, v.held)
}

// brief are lines as tests tell them: not all, if they are many, or long.
func brief(lines []string) string {
	return fmt.Sprintf("%d lines %.300s", len(lines), fmt.Sprintf("%q", lines))
}

func (v view) same(w view) bool {
	return slices.Equal(v.lines, w.lines) && v.at == w.at && v.marks == w.marks && v.open == w.open && v.states == w.states && v.held == w.held
}

func (d desk) view() view {
	var marked, states []string
	for _, m := range d.b.Marks().All() {
		marked = append(marked, fmt.Sprintf("%c%d", m.Name, m.Line))
	}
	for _, s := range d.b.States().States() {
		states = append(states, fmt.Sprintf("%d.%d", s.Seq, s.From))
	}
	return view{
		lines:  d.b.Lines(),
		at:     d.b.Cursor(),
		marks:  strings.Join(marked, " "),
		open:   opened(d.b.Open()),
		states: strings.Join(states, " ") + " now " + fmt.Sprint(d.b.States().Now()),
		held:   held(d.r),
	}
}

// opened are changes as the tests write them: at which line, what was there, what is put in its place; and so on.
func opened(l []api.Delta) string {
	var words []string
	for _, d := range l {
		words = append(words, fmt.Sprintf("%d%q%q", d.At, d.Old, d.New))
	}
	return strings.Join(words, " ")
}

// held is what is in registers: a name, = if it is Whole and - if it is not, its lines with / between.
func held(r *regs.Regs) string {
	var words []string
	for _, name := range r.Names() {
		x, _ := r.Get(name)
		sign := "-"
		if x.Whole {
			sign = "="
		}
		words = append(words, string(rune(name))+sign+strings.Join(x.Lines, "/"))
	}
	return strings.Join(words, " ")
}

// lists are addresses with more in the memory behind their length.
func lists(l []api.Addr) []api.Addr {
	return append(slices.Clone(l), api.Addr{Kind: api.AdEnd}, api.Addr{N: 7})[:len(l)]
}

// do is what Do answers. What is handed in is not changed, and written over then; so is what is told: the desk does not change by it. What is refused tells nothing, and changes nothing.
func (d desk) do(t testing.TB, c made, from, to, dest int) ([]string, api.Errno) {
	t.Helper()
	was := d.view()
	handed := c.Cmd
	handed.Range, handed.Dest = lists(c.Range), lists(c.Dest)
	texts := []lent{lend(c.Name), lend(c.Pat), lend(c.Rep), lend(c.Flags), lend(c.Arg)}
	for n, s := range []*string{&handed.Name, &handed.Pat, &handed.Rep, &handed.Flags, &handed.Arg} {
		*s = texts[n].text()
	}
	tells, e := edit.Do(d.b, d.r, handed, from, to, dest)
	told, is := slices.Clone(tells), d.view()
	for i := range told {
		told[i] = strings.Clone(told[i])
	}
	for _, l := range texts {
		l.gone(t)
	}
	if !slices.Equal(tells, told) {
		t.Errorf("%s: what is told shares memory with what was handed in", shown(c, from, to, dest))
	}
	for i := range tells[:cap(tells)] {
		tells[:cap(tells)][i] = "written over"
	}
	if then := d.view(); !then.same(is) {
		t.Errorf("%s: it is %v, then, with what was handed in and out written over, %v", shown(c, from, to, dest), is, then)
	}
	if e != api.OK && (len(told) > 0 || !is.same(was)) {
		t.Errorf("%s is refused by error %d, but tells %s, and it is %v, was %v", shown(c, from, to, dest), e, brief(told), is, was)
	}
	return told, e
}

// shown is a command as tests tell it: not all, if it is long.
func shown(c made, from, to, dest int) string {
	return fmt.Sprintf("%.60q (bang %t, register %q, count %d, %d bytes) of %d to %d, to %d", c.Name, c.Bang, c.Reg, c.Count, len(c.Arg), from, to, dest)
}

// goes says that a command is done, and tells nothing.
func (d desk) goes(t testing.TB, c made, from, to, dest int) {
	t.Helper()
	d.tells(t, c, from, to, dest)
}

// tells says that a command is done, and what it tells.
func (d desk) tells(t testing.TB, c made, from, to, dest int, want ...string) {
	t.Helper()
	if is, e := d.do(t, c, from, to, dest); e != api.OK || !slices.Equal(is, want) {
		t.Errorf("%s: tells %s, error %d, want %s", shown(c, from, to, dest), brief(is), e, brief(want))
	}
}

// refuses says by which error a command is refused.
func (d desk) refuses(t testing.TB, want api.Errno, c made, from, to, dest int) {
	t.Helper()
	if is, e := d.do(t, c, from, to, dest); e != want {
		t.Errorf("%s: tells %s, error %d, want error %d", shown(c, from, to, dest), brief(is), e, want)
	}
}

// check says what lines there are, where the cursor is, and which marks there are.
func (d desk) check(t testing.TB, lines string, at int, marks string) {
	t.Helper()
	v := d.view()
	if is := strings.Join(v.lines, "/"); is != lines || v.at != at || v.marks != marks {
		t.Errorf("the text is %.300q at %d, marks %s, want %.300q at %d, marks %s", is, v.at, v.marks, lines, at, marks)
	}
	if v.states != "0.-1 now 0" {
		t.Errorf("the states are %s", v.states)
	}
}

func (d desk) checkOpen(t testing.TB, want string) {
	t.Helper()
	if is := opened(d.b.Open()); is != want {
		t.Errorf("open is %.300s, want %.300s", is, want)
	}
}

func (d desk) checkHeld(t testing.TB, want string) {
	t.Helper()
	if is := held(d.r); is != want {
		t.Errorf("the registers are %.300s, want %.300s", is, want)
	}
}

// many are n lines, each with its number; long is a line of n bytes.
func many(n int) []string {
	var all []string
	for i := range n {
		all = append(all, fmt.Sprint("line ", i+1))
	}
	return all
}

func long(n int) string { return strings.Repeat("\xff", n) }
