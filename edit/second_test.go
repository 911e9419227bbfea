package edit_test

import (
	"fmt"
	"math"
	"math/rand"
	"regexp"
	"slices"
	"strings"
	"testing"

	"emendator/api"
	"emendator/edit"
	"emendator/regs"
)

// The chapter's sentences again, of another make: lines carry their marks with them, and each command says what becomes of them; what two lines are as one, and what a shift takes off, is asked of regular expressions. (What is in a register is taken from package regs.)

var (
	ahead = regexp.MustCompile(`^[ \t]+`)
	tight = regexp.MustCompile(`^(\x01|[^\x01]*[ \t]\x01|[^\x01]*\x01(\)|$))`)
	taken = regexp.MustCompile(`^(\t| {1,8})`)
)

// secondJoin holds the lines with a byte between that neither has.
func secondJoin(a, b string, bold bool) string {
	if bold {
		return a + b
	}
	rest := ahead.ReplaceAllString(b, "")
	if tight.MatchString(plain(a) + "\x01" + plain(rest)) {
		return a + rest
	}
	return a + " " + rest
}

// plain has an x for each byte that says nothing here, and may be in no rune.
func plain(s string) string {
	l := []byte(s)
	for i, c := range l {
		if c != ' ' && c != '\t' && c != ')' {
			l[i] = 'x'
		}
	}
	return string(l)
}

func secondShift(s string, times int, back bool) string {
	for n := 0; n < times && n < 200 && s != ""; n++ {
		if back {
			s = s[len(taken.FindString(plain(s))):]
		} else {
			s = "\t" + s
		}
	}
	return s
}

// row is a line, and the names of its marks.
type row struct{ text, marks string }

type second struct {
	rows []row
	at   int
	open []string
	regs *regs.Regs
}

// newSecond is one that is as a desk is.
func newSecond(d desk) *second {
	s := &second{at: d.b.Cursor(), regs: d.r.Copy()}
	for _, line := range d.b.Lines() {
		s.rows = append(s.rows, row{text: line})
	}
	for _, m := range d.b.Marks().All() {
		s.rows[m.Line-1].marks += string(rune(m.Name))
	}
	return s
}

func texts(rows []row) []string {
	all := []string{}
	for _, one := range rows {
		all = append(all, one.text)
	}
	return all
}

// bare are lines that no mark has.
func bare(lines []string) []row {
	var all []row
	for _, line := range lines {
		all = append(all, row{text: line})
	}
	return all
}

// become has rows in the place of those between two places, and the cursor in a line, or why not.
func (s *second) become(from, to int, rows []row, at int) api.Errno {
	new := slices.Concat(s.rows[:from], rows, s.rows[to:])
	if len(new) > 2000 {
		return 3
	}
	for _, one := range rows {
		if len(one.text) > 1000 {
			return 90
		}
	}
	s.open = append(s.open, fmt.Sprintf("%d%q%q", from, texts(s.rows[from:to]), texts(rows)))
	s.rows = new
	s.at = min(at, len(new))
	return 0
}

// lines are the first and the last of those that are meant.
func (s *second) lines(c api.Cmd, from, to int) (int, int, api.Errno) {
	if from < 0 || from > to || to > len(s.rows) || from == 0 && !slices.Contains([]string{"", "pu", "="}, c.Name) {
		return 0, 0, 140
	}
	if c.Count == -1 || !slices.Contains([]string{"d", "y", "j", "p", ">", "<"}, c.Name) {
		return from, to, 0
	}
	if c.Count <= 0 {
		return 0, 0, 140
	}
	from = to
	for k := 1; k < c.Count && to < len(s.rows); k++ {
		to++
	}
	return from, to, 0
}

func (s *second) do(c api.Cmd, from, to, dest int) ([]string, api.Errno) {
	from, to, e := s.lines(c, from, to)
	if e != 0 {
		return nil, e
	}
	reg := c.Reg
	if reg == 0 {
		reg = '"'
	}
	var these []row
	if from > 0 {
		these = slices.Clone(s.rows[from-1 : to])
	}
	switch c.Name {
	case "":
		s.at = max(to, 1)
	case "p":
		s.at = to
		return texts(these), 0
	case "=":
		return []string{fmt.Sprint(to)}, 0
	case "d":
		return nil, s.cut(reg, these, from, to)
	case "y":
		return nil, s.regs.Yank(reg, api.Reg{Lines: texts(these), Whole: true})
	case "m":
		return nil, s.move(these, from, to, dest)
	case "t":
		if dest < 0 || dest > len(s.rows) {
			return nil, 140
		}
		return nil, s.become(dest, dest, bare(texts(these)), dest+len(these))
	case "j":
		return nil, s.join(c.Bang, from, to)
	case "pu":
		return nil, s.put(reg, c.Bang, to)
	case "k":
		return nil, s.mark(c.Reg, to)
	case ">", "<":
		for i, one := range these {
			these[i].text = secondShift(one.text, len(c.Arg), c.Name == "<")
		}
		return nil, s.become(from-1, to, these, to)
	default:
		return nil, 150
	}
	return nil, 0
}

func (s *second) cut(reg byte, these []row, from, to int) api.Errno {
	if e := s.regs.Cut(reg, api.Reg{Lines: texts(these), Whole: true}); e != 0 {
		return e
	}
	if len(these) < len(s.rows) {
		return s.become(from-1, to, nil, from)
	}
	return s.become(0, to, []row{{"", these[0].marks}}, 1)
}

// move numbers the places of the lines as they are then, and has each line at its own.
func (s *second) move(these []row, from, to, dest int) api.Errno {
	switch {
	case dest < 0 || dest > len(s.rows):
		return 140
	case from <= dest && dest < to:
		return 160
	}
	var new []row
	last := 0
	for n := 0; n <= len(s.rows); n++ {
		if n > 0 && (n < from || n > to) {
			new = append(new, s.rows[n-1])
		}
		if n == dest {
			new = append(new, these...)
			last = len(new)
		}
	}
	first, end := min(from, dest+1), max(to, dest)
	if dest != from-1 && dest != to {
		s.open = append(s.open, fmt.Sprintf("%d%q%q", first-1, texts(s.rows[first-1:end]), texts(new[first-1:end])))
	}
	s.rows, s.at = new, last
	return 0
}

func (s *second) join(bold bool, from, to int) api.Errno {
	if from == to {
		to++
	}
	if to > len(s.rows) {
		return 140
	}
	one := s.rows[from-1]
	for _, other := range s.rows[from:to] {
		one.text = secondJoin(one.text, other.text, bold)
	}
	return s.become(from-1, to, []row{one}, from)
}

func (s *second) put(reg byte, bold bool, to int) api.Errno {
	x, e := s.regs.Get(reg)
	if e != 0 {
		return e
	}
	if bold && to > 0 {
		to--
	}
	return s.become(to, to, bare(x.Lines), to+len(x.Lines))
}

func (s *second) mark(name byte, line int) api.Errno {
	if name < 'a' || name > 'z' {
		return 100
	}
	for i, one := range s.rows {
		s.rows[i].marks = strings.ReplaceAll(one.marks, string(rune(name)), "")
	}
	s.rows[line-1].marks += string(rune(name))
	return 0
}

func (s *second) view(states string) view {
	var marked []string
	for i, one := range s.rows {
		for _, name := range one.marks {
			marked = append(marked, fmt.Sprintf("%c%d", name, i+1))
		}
	}
	slices.Sort(marked)
	return view{texts(s.rows), s.at, strings.Join(marked, " "), strings.Join(s.open, " "), states, held(s.regs)}
}

// both are a desk and its second, with which the same is done.
type both struct {
	desk
	s *second
}

func newBoth(t testing.TB, lines ...string) both {
	t.Helper()
	d := laidOut(t, lines...)
	return both{d, newSecond(d)}
}

// same does the same to both: they answer the same, and are the same then.
func (x both) same(t testing.TB, c made, from, to, dest int) {
	t.Helper()
	was := x.view()
	want, f := x.s.do(c.Cmd, from, to, dest)
	is, e := x.do(t, c, from, to, dest)
	if e != f || !slices.Equal(is, want) {
		t.Fatalf("%s, of %v: tells %s, error %d, want %s, error %d", shown(c, from, to, dest), was, brief(is), e, brief(want), f)
	}
	if is, want := x.view(), x.s.view(was.states); !is.same(want) {
		t.Fatalf("%s, of %v: it is %v, want %v", shown(c, from, to, dest), was, is, want)
	}
}

// TestSecondJoin: all lines of up to four bytes that say something, and one that does not.
func TestSecondJoin(t *testing.T) {
	all := words("x \t)", 4)
	for _, a := range all {
		for _, b := range all {
			for _, bold := range []bool{false, true} {
				if is, want := edit.Join(a, b, bold), secondJoin(a, b, bold); is != want {
					t.Fatalf("Join of %q, %q, %t: %q, want %q", a, b, bold, is, want)
				}
			}
		}
	}
}

// words are all texts of these bytes up to some length.
func words(bytes string, most int) []string {
	all := []string{""}
	for from := 0; most > 0; most-- {
		upTo := len(all)
		for _, word := range all[from:upTo] {
			for i := range len(bytes) {
				all = append(all, word+bytes[i:i+1])
			}
		}
		from = upTo
	}
	return all
}

// TestSecondShift: all lines of up to six pieces, among them as many blanks as a shift takes, one less and one more.
func TestSecondShift(t *testing.T) {
	for _, word := range words("x 789\t", 5) {
		s := strings.NewReplacer("7", blanks(7), "8", blanks(8), "9", blanks(9)).Replace(word)
		for times := -1; times <= 7; times++ {
			for _, back := range []bool{false, true} {
				if is, want := edit.Shift(s, times, back), secondShift(s, times, back); is != want {
					t.Fatalf("Shift of %q, %d, %t: %q, want %q", s, times, back, is, want)
				}
			}
		}
	}
}

// TestSecondAll: each name, of all ranges in texts of up to four lines and beyond them; to all lines and beyond them; with all numbers up to more than there are lines; each with some registers, bold and not.
func TestSecondAll(t *testing.T) {
	lines := []string{"a", "  b", "", "\tc"}
	for size := 1; size <= len(lines); size++ {
		for _, name := range append([]string{"zz", "P"}, names...) {
			for code := range (size + 3) * (size + 3) * (2*size + 7) * 6 {
				some := func(most int) int {
					n := code % most
					code /= most
					return n
				}
				from, to, more := some(size+3)-1, some(size+3)-1, some(2*size+7)
				c, dest := named(name).arg(">>"), 1
				if more < size+3 {
					dest = more - 1
				} else {
					c.Count = more - size - 5
				}
				c.Bang, c.Reg = some(2) == 0, []byte{0, 'q', 'Q'}[some(3)]
				x := newBoth(t, lines[:size]...)
				for _, r := range []*regs.Regs{x.r, x.s.regs} {
					r.Yank('q', api.Reg{Lines: []string{"p", "q"}})
				}
				x.same(t, c, from, to, dest)
			}
		}
	}
}

// someLine is at random, of bytes that say something mostly; now and then it is long.
func someLine(r *rand.Rand) string {
	line := make([]byte, r.Intn(6))
	for i := range line {
		line[i] = " \t)xyz\x00\xff"[r.Intn(8)]
	}
	switch r.Intn(30) {
	case 0:
		return long(990+r.Intn(9)) + string(line)[:min(2, len(line))]
	case 1:
		return blanks(r.Intn(20)) + string(line)
	}
	return string(line)
}

// someNumber is mostly that of a line or near one; now and then far from all.
func someNumber(r *rand.Rand, size int) int {
	switch r.Intn(60) {
	case 0:
		return math.MinInt + r.Intn(3)
	case 1:
		return math.MaxInt - r.Intn(3)
	case 2:
		return int(r.Uint64())
	case 3, 4, 5, 6, 7, 8:
		return r.Intn(size+7) - 3
	}
	return 1 + r.Intn(size)
}

// someCommand is at random, its lines too.
func someCommand(r *rand.Rand, size int) (c made, from, to, dest int) {
	c = named(append(names, "j", "m", "t", "pu", "zz")[r.Intn(len(names)+5)])
	c.Bang = r.Intn(2) == 0
	c.Arg = strings.Repeat(c.Name, r.Intn(4))
	if r.Intn(30) == 0 {
		c.Arg = long(r.Intn(300))
	}
	switch r.Intn(8) {
	case 0, 1, 2, 3:
	case 4:
		c.Reg = byte(r.Intn(256))
	default:
		c.Reg = "abABxX_0129\""[r.Intn(12)]
	}
	if r.Intn(3) == 0 {
		c.Count = someNumber(r, 5)
		if c.Count > 1000 {
			c.Count = min(c.Count, 1<<20) // the second counts one by one
		}
	}
	from = someNumber(r, size)
	to = someNumber(r, size)
	switch r.Intn(5) {
	case 0, 1:
		to = from
	case 2:
		from, to = min(from, to), max(from, to)
	case 3:
		to = from + r.Intn(3)
	}
	return c, from, to, someNumber(r, size)
}

// TestSecondAny: many commands one behind the other.
func TestSecondAny(t *testing.T) {
	r := rand.New(rand.NewSource(16))
	for range 400 {
		var lines []string
		for range r.Intn(9) {
			lines = append(lines, someLine(r))
		}
		x := newBoth(t, lines...)
		for range 100 {
			c, from, to, dest := someCommand(r, len(x.s.rows))
			if len(x.s.rows) > 60 {
				c = named("d").reg('_')
			}
			x.same(t, c, from, to, dest)
			if r.Intn(10) == 0 {
				x.b.Commit()
				x.s.open = nil
			}
		}
	}
}

// TestSecondGreat: near the limits of lines, and of registers.
func TestSecondGreat(t *testing.T) {
	r := rand.New(rand.NewSource(61))
	for range 8 {
		x := newBoth(t, many(1980)...)
		for range 60 {
			size := len(x.s.rows)
			from := 1 + r.Intn(size)
			to := min(size, from+[]int{r.Intn(3), r.Intn(30), r.Intn(2000)}[r.Intn(3)])
			c := named([]string{"d", "y", "m", "t", "t", "pu", "pu", "j", ">", "<", "p", "k"}[r.Intn(12)]).arg(">")
			c.Reg = "\x00\x00abAB_"[r.Intn(7)]
			c.Bang = r.Intn(2) == 0
			x.same(t, c, from, to, r.Intn(size+1))
			x.b.Commit()
			x.s.open = nil
		}
	}
}

// FuzzDo: any commands, one behind the other, each of eight bytes: a name's number, three lines, a number, a register, how many bytes Arg has, whether it is bold.
func FuzzDo(f *testing.F) {
	f.Add("\x03\x01\x02\x00\x00\x00\x00\x00\x08\x01\x01\x00\x00\x00\x00\x01", "a\n b\nc", "")
	f.Add("\x07\x01\x01\x00\x03\x00\x00\x00\x04\x01\x01\x00\x00Q\x00\x01\x0c\x01\x01\x00\x00Q\x00\x01", ")\n \t\n\nx", "norm")
	f.Add("\x05\x01\x02\x03\x00\x00\x00\x00\x06\x01\x02\x03\x00\x00\x00\x00\x0a\x01\x02\x03\x00\x00\x04\x00", "\xff\n\x00\n \t x", "s")
	f.Fuzz(func(t *testing.T, code, text, other string) {
		lines := strings.Split(text, "\n")
		if len(code) > 400 || len(lines) > 20 || slices.ContainsFunc(lines, func(line string) bool { return len(line) > 1000 }) {
			t.Skip()
		}
		x := newBoth(t, lines...)
		for ; len(code) >= 8 && len(x.s.rows) < 2000; code = code[8:] {
			n := func(i int) int { return int(int8(code[i])) }
			c := named(append([]string{other}, names...)[int(code[0])%(len(names)+1)])
			c.Count, c.Reg, c.Bang = n(4)-1, code[5], code[7]%2 == 1
			c.Arg = long(int(code[6]))
			x.same(t, c, n(1), n(2), n(3))
		}
	})
}

// FuzzLines: Join and Shift of any lines.
func FuzzLines(f *testing.F) {
	f.Add("a", "  b", 1)
	f.Add(" \t\x01", ")\xff", 201)
	f.Fuzz(func(t *testing.T, a, b string, times int) {
		for _, bold := range []bool{false, true} {
			if is, want := join(t, a, b, bold), secondJoin(a, b, bold); is != want {
				t.Errorf("Join of %.99q, %.99q, %t: %.99q, want %.99q", a, b, bold, is, want)
			}
			if is, want := shift(t, a, times, bold), secondShift(a, times, bold); is != want {
				t.Errorf("Shift of %.99q, %d, %t: %.99q, want %.99q", a, times, bold, is, want)
			}
		}
	})
}
