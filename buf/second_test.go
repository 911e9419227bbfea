package buf_test

import (
	"fmt"
	"maps"
	"math"
	"math/rand"
	"slices"
	"strings"
	"testing"

	"emendator/api"
	"emendator/buf"
	"emendator/undo"
)

// The chapter's sentences again, of another make: lines are a list, which is written down whole for each state and for Back; marks are held by lines' numbers. (Which states there are, and which changes lead to one, is taken from package undo.)

type sheet struct {
	lines []string
	at    int
	marks map[byte]int
}

func (s sheet) copied() sheet {
	return sheet{slices.Clone(s.lines), s.at, maps.Clone(s.marks)}
}

type second struct {
	sheet
	open   []api.Delta
	back   sheet
	states *undo.Tree
	were   map[int][]string
}

func newSecond(lines []string, states int) (*second, api.Errno) {
	switch {
	case states < 1 || states > 200:
		return nil, 1
	case len(lines) > 2000:
		return nil, 3
	}
	for _, line := range lines {
		if len(line) > 1000 {
			return nil, 90
		}
	}
	if len(lines) == 0 {
		lines = []string{""}
	}
	s := sheet{lines, 1, map[byte]int{}}
	return &second{sheet: s, back: s.copied(), states: undo.New(states), were: map[int][]string{0: slices.Clone(lines)}}, 0
}

func (s *second) put(n int) {
	switch {
	case n < 1:
		s.at = 1
	case n > len(s.lines):
		s.at = len(s.lines)
	default:
		s.at = n
	}
}

// markSplice takes the marks, one by one, where n lines go of which so many others take the place.
func (s *second) markSplice(line, n, others int) {
	for name, at := range s.marks {
		place := at - line // among those that are taken out, from 0 on
		if place >= 0 && place < n && place >= others {
			delete(s.marks, name)
		}
		if place >= n {
			s.marks[name] = at - n + others
		}
	}
}

func (s *second) splice(line, n int, lines []string) api.Errno {
	if line < 1 || line > len(s.lines)+1 || n < 0 || n > len(s.lines)+1-line {
		return 140
	}
	new := slices.Concat(s.lines[:line-1], lines, s.lines[line-1+n:])
	if len(new) > 2000 {
		return 3
	}
	for _, text := range lines {
		if len(text) > 1000 {
			return 90
		}
	}
	if n == 0 && len(lines) == 0 {
		return 0
	}
	put := slices.Clone(lines)
	if len(new) == 0 {
		put, new = []string{""}, []string{""}
	}
	s.open = append(s.open, api.Delta{At: line - 1, Old: slices.Clone(s.lines[line-1 : line-1+n]), New: put})
	s.lines = new
	s.markSplice(line, n, len(put))
	s.at = min(s.at, len(new))
	return 0
}

func (s *second) move(from, to, behind int) api.Errno {
	if e := answer(len(s.lines), from, to, behind); e != 0 {
		return e
	}
	if behind == from-1 || behind == to {
		return 0
	}
	// The numbers move as the lines do: which line is where then.
	var numbers []string
	for n := range s.lines {
		numbers = append(numbers, fmt.Sprint(n+1))
	}
	numbers = moved(numbers, from, to, behind)
	for name, at := range s.marks {
		if now := slices.Index(numbers, fmt.Sprint(at)); now >= 0 {
			s.marks[name] = now + 1
		}
	}
	new := moved(s.lines, from, to, behind)
	first, last := min(from, behind+1), max(to, behind)
	s.open = append(s.open, api.Delta{At: first - 1, Old: slices.Clone(s.lines[first-1 : last]), New: slices.Clone(new[first-1 : last])})
	s.lines = new
	return 0
}

func (s *second) commit() (int, bool) {
	s.back = s.sheet.copied()
	if s.open == nil {
		return 0, false
	}
	seq := s.states.Add(s.open)
	s.were[seq] = slices.Clone(s.lines)
	s.open = nil
	return seq, true
}

func (s *second) goBack() {
	s.sheet = s.back.copied()
	s.open = nil
}

// travel goes where one of package undo's calls leads: the lines are what was written down.
func (s *second) travel(lead func() ([]api.Delta, api.Errno)) api.Errno {
	if s.open != nil {
		s.goBack()
	}
	l, e := lead()
	if e != 0 {
		return e
	}
	s.lines = slices.Clone(s.were[s.states.Now()])
	for _, d := range l {
		s.markSplice(d.At+1, len(d.Old), len(d.New))
		s.put(d.At + 1)
	}
	s.back = s.sheet.copied()
	return 0
}

func (s *second) view() view {
	var marked, states []string
	for _, name := range slices.Sorted(maps.Keys(s.marks)) {
		marked = append(marked, fmt.Sprintf("%c%d", name, s.marks[name]))
	}
	for _, one := range s.states.States() {
		states = append(states, fmt.Sprintf("%d.%d", one.Seq, one.From))
	}
	return view{s.lines, s.at, strings.Join(marked, " "), row(s.open), strings.Join(states, " ") + " now " + fmt.Sprint(s.states.Now())}
}

// both are a text and its second, to which the same is done.
type both struct {
	b *buf.Buf
	s *second
}

func newBoth(t testing.TB, states int, lines ...string) both {
	t.Helper()
	b := open(t, states, lines...)
	s, e := newSecond(lines, states)
	goes(t, e)
	return both{b, s}
}

// do does to both what a letter says, of up to three numbers, or of lines: what they answer.
func (x both) do(t testing.TB, what byte, n [3]int, lines []string) (is, want string) {
	t.Helper()
	two := func(is, want api.Errno) (string, string) { return fmt.Sprint(uint16(is)), fmt.Sprint(uint16(want)) }
	tree := x.s.states
	switch what {
	case 's':
		return two(splice(t, x.b, n[0], n[1], lines), x.s.splice(n[0], n[1], lines))
	case 'm':
		return two(x.b.Move(n[0], n[1], n[2]), x.s.move(n[0], n[1], n[2]))
	case 'p':
		x.b.Put(n[0])
		x.s.put(n[0])
	case 'k':
		line := 1 + uint16(n[0])%9
		name := 'a' + byte(uint16(n[1])%5)
		x.s.marks[name] = int(line)
		return two(x.b.Marks().Set(name, int(line)), 0)
	case 'c':
		return fmt.Sprint(x.b.Commit()), fmt.Sprint(x.s.commit())
	case 'b':
		x.b.Back()
		x.s.goBack()
	case 'u':
		return two(x.b.Undo(), x.s.travel(tree.Undo))
	case 'r':
		return two(x.b.Redo(), x.s.travel(tree.Redo))
	case 'g':
		return two(x.b.Go(n[0]), x.s.travel(func() ([]api.Delta, api.Errno) { return tree.Go(n[0]) }))
	case 'e':
		return two(x.b.Earlier(n[0]), x.s.travel(func() ([]api.Delta, api.Errno) { return tree.Earlier(n[0]) }))
	case 'l':
		return two(x.b.Later(n[0]), x.s.travel(func() ([]api.Delta, api.Errno) { return tree.Later(n[0]) }))
	}
	return "", ""
}

// same does the same to both: they answer the same, and are the same then.
func (x both) same(t testing.TB, what byte, n [3]int, lines []string) {
	t.Helper()
	was := x.s.view()
	if is, want := x.do(t, what, n, lines); is != want {
		t.Fatalf("%c %d %.300q of %v: %s, want %s", what, n, lines, was, is, want)
	}
	if is, want := seen(t, x.b), x.s.view(); !is.same(want) {
		t.Fatalf("%c %d %.300q of %v: it is %v, want %v", what, n, lines, was, is, want)
	}
}

// TestSecondNew: what New refuses.
func TestSecondNew(t *testing.T) {
	for _, states := range []int{-1, 0, 1, 2, 200, 201} {
		for _, lines := range [][]string{nil, {""}, {"a", "b"}, {long(1000)}, {long(1001)}, many(2000), many(2001), append(many(1999), long(1001)), append(many(2000), long(1001))} {
			b, is := buf.New(lines, states)
			if _, want := newSecond(lines, states); is != want || (b == nil) != (want != 0) {
				t.Errorf("New of %d lines, %d states: error %d, want %d", len(lines), states, is, want)
			}
		}
	}
}

// someLines are at random: any bytes, now and then too long.
func someLines(r *rand.Rand, most int) []string {
	var all []string
	for range r.Intn(most + 1) {
		line := make([]byte, r.Intn(4))
		for i := range line {
			line[i] = byte(r.Intn(256))
		}
		if r.Intn(40) == 0 {
			line = []byte(long(999 + r.Intn(3)))
		}
		all = append(all, string(line))
	}
	return all
}

// someNumber is mostly that of a line or near one; now and then far from all.
func someNumber(r *rand.Rand, size int) int {
	switch r.Intn(60) {
	case 0:
		return math.MinInt + r.Intn(3)
	case 1:
		return math.MaxInt - r.Intn(3)
	case 2:
		return int(r.Uint64())
	case 3, 4, 5, 6, 7, 8:
		return r.Intn(size+7) - 3
	}
	return 1 + r.Intn(size+1)
}

// TestAnyCalls: many calls one behind the other, of texts with room for few states and for many.
func TestAnyCalls(t *testing.T) {
	r := rand.New(rand.NewSource(13))
	for n := range 300 {
		states := []int{1, 2, 3, 5, 9, 200}[n%6]
		x := newBoth(t, states, slices.DeleteFunc(someLines(r, 6), func(line string) bool { return len(line) > 1000 })...)
		for range 200 {
			what := "sssssssmmmmpkkcccccbuurrggel"[r.Intn(28)]
			size := len(x.s.lines)
			three := [3]int{someNumber(r, size), someNumber(r, size), someNumber(r, size)}
			switch {
			case what == 's' && r.Intn(2) == 0:
				three[1] = r.Intn(3)
			case what == 'm' && r.Intn(2) == 0:
				three[1] = three[0] + r.Intn(3)
			case what == 'g' && r.Intn(8) > 0:
				three[0] = len(x.s.were) - r.Intn(min(len(x.s.were), 2*states)) - 1
			case (what == 'e' || what == 'l') && r.Intn(4) > 0:
				three[0] = r.Intn(4)
			}
			x.same(t, what, three, someLines(r, 3))
		}
		x.ways(t, r)
	}
}

// ways goes to each state that is there, in some order, and on from there as far as it goes.
func (x both) ways(t testing.TB, r *rand.Rand) {
	t.Helper()
	all := x.b.States().States()
	for _, i := range r.Perm(len(all)) {
		x.same(t, 'g', [3]int{all[i].Seq}, nil)
		for range r.Intn(3) {
			x.same(t, 'r', [3]int{}, nil)
		}
	}
}

// TestAllCalls: all that can be done in four calls one behind the other, of fifteen kinds, in a text where there were some ahead of them.
func TestAllCalls(t *testing.T) {
	type call struct {
		what  byte
		n     [3]int
		lines []string
	}
	kinds := []call{
		{'s', [3]int{1, 1}, nil},
		{'s', [3]int{2, 0}, []string{"x", "y"}},
		{'s', [3]int{1, 2}, []string{"z"}},
		{'m', [3]int{1, 1, 2}, nil},
		{'m', [3]int{2, 2, 0}, nil},
		{'p', [3]int{2}, nil},
		{'k', [3]int{1, 0}, nil},
		{'c', [3]int{}, nil},
		{'b', [3]int{}, nil},
		{'u', [3]int{}, nil},
		{'r', [3]int{}, nil},
		{'g', [3]int{0}, nil},
		{'g', [3]int{1}, nil},
		{'e', [3]int{1}, nil},
		{'l', [3]int{1}, nil},
	}
	aheads := [][]call{nil, {kinds[2], kinds[7], kinds[9], kinds[1], kinds[7]}}
	for _, states := range []int{1, 3} {
		for _, ahead := range aheads {
			for code := range 15 * 15 * 15 * 15 {
				x := newBoth(t, states, "a", "b")
				for _, one := range ahead {
					x.do(t, one.what, one.n, one.lines)
				}
				for range 4 {
					one := kinds[code%15]
					code /= 15
					x.do(t, one.what, one.n, one.lines)
					if is, want := once(x.b), x.s.view(); !is.same(want) {
						t.Fatalf("it is %v, want %v", is, want)
					}
				}
			}
		}
	}
}

// TestGreatTexts: near the limits of lines, where few calls of many lines go to and fro.
func TestGreatTexts(t *testing.T) {
	r := rand.New(rand.NewSource(31))
	for range 6 {
		x := newBoth(t, 5, many(1990)...)
		for range 60 {
			size := len(x.s.lines)
			line := 1 + r.Intn(size+1)
			switch r.Intn(6) {
			case 0, 1:
				x.same(t, 's', [3]int{line, r.Intn(min(20, size-line+2))}, many(r.Intn(25)))
			case 2:
				x.same(t, 's', [3]int{1, r.Intn(size + 1)}, many(1000+r.Intn(1100)))
			case 3:
				x.same(t, 'm', [3]int{min(line, size), min(line+r.Intn(900), size), r.Intn(size + 1)}, nil)
			case 4:
				x.same(t, 'c', [3]int{}, nil)
			case 5:
				x.same(t, "urbgel"[r.Intn(6)], [3]int{1 + r.Intn(5)}, nil)
			}
		}
	}
}

// FuzzCalls: any calls of any numbers, any lines.
func FuzzCalls(f *testing.F) {
	f.Add(byte(3), "s211c000u000m102b000", "x\ny")
	f.Add(byte(1), "s110c000u000g100e100", "")
	f.Add(byte(200), "p200k110s130c000m103u000r000l100", "\x00\xff\n\n")
	f.Fuzz(func(t *testing.T, states byte, text, line string) {
		if strings.Contains(line, lies) || strings.Contains(line, gone) || len(text) > 1000 {
			t.Skip()
		}
		x := newBoth(t, int(states)%8+1, "a", "b", "c")
		lines := strings.Split(line, "\n")
		for i := 0; i+3 < len(text); i += 4 {
			n := [3]int{}
			for k := range n {
				n[k] = int(int8(text[i+1+k])) - '0'
			}
			x.same(t, text[i], n, lines[:i/4%(len(lines)+1)])
		}
	})
}
