package marks_test

import (
	"fmt"
	"math"
	"math/rand"
	"slices"
	"testing"

	"emendator/api"
	"emendator/marks"
)

// The chapter's sentences again, of another make: a text whose lines really are taken out, put in and moved, each of them known by a number of its own, by which a mark finds it again.

// piece is some lines, one behind the other, known by first and the numbers behind it.
type piece struct{ first, many int }

// endless is how many lines the last piece of a text has: no number that is handed in comes near it.
const endless = 1 << 40

type page struct {
	pieces []piece
	fresh  int // the number of the next line that is put in
	marks  map[byte]int
}

func newPage() *page {
	return &page{pieces: []piece{{0, endless}}, fresh: endless, marks: map[byte]int{}}
}

// cut is the place among the pieces of the one that begins behind so many lines.
func (p *page) cut(lines int) int {
	for i, one := range p.pieces {
		if lines == 0 {
			return i
		}
		if lines < one.many {
			p.pieces = slices.Replace(p.pieces, i, i+1, piece{one.first, lines}, piece{one.first + lines, one.many - lines})
			return i + 1
		}
		lines -= one.many
	}
	panic("beyond the text's end")
}

func (p *page) take(line, n int) []piece {
	from := p.cut(line - 1)
	to := p.cut(line - 1 + n)
	taken := slices.Clone(p.pieces[from:to])
	p.pieces = slices.Delete(p.pieces, from, to)
	return taken
}

func (p *page) put(line int, pieces []piece) {
	p.pieces = slices.Insert(p.pieces, p.cut(line-1), pieces...)
}

// at is the number of a line.
func (p *page) at(line int) int { return p.pieces[p.cut(line-1)].first }

// line is where the line of that number is; 0: nowhere.
func (p *page) line(number int) int {
	ahead := 0
	for _, one := range p.pieces {
		if number >= one.first && number < one.first+one.many {
			return ahead + number - one.first + 1
		}
		ahead += one.many
	}
	return 0
}

func within(n, least int) bool { return n >= least && n <= math.MaxInt32 }

func (p *page) Set(name byte, line int) api.Errno {
	if !slices.Contains(letters(), name) {
		return api.ErrMark
	}
	if !within(line, 1) {
		return api.ErrArg
	}
	p.marks[name] = p.at(line)
	return api.OK
}

func (p *page) Splice(line, n, lines int) {
	if !within(line, 1) || !within(n, 0) || !within(lines, 0) {
		return
	}
	same := min(n, lines)
	if n > same {
		p.take(line+same, n-same)
	}
	if lines > same {
		p.put(line+same, []piece{{p.fresh, lines - same}})
		p.fresh += lines - same
	}
}

func (p *page) Move(from, to, behind int) {
	if !within(from, 1) || !within(to, from) || !within(behind, 0) || behind >= from-1 && behind <= to {
		return
	}
	taken := p.take(from, to-from+1)
	if behind > to {
		behind -= to - from + 1
	}
	p.put(behind+1, taken)
}

func (p *page) told() string {
	var all []api.Mark
	for _, name := range letters() {
		number, is := p.marks[name]
		if line := p.line(number); is && line != 0 {
			all = append(all, api.Mark{Name: name, Line: line})
		}
	}
	return row(all)
}

func (p *page) clone() *page {
	o := &page{pieces: slices.Clone(p.pieces), fresh: p.fresh, marks: map[byte]int{}}
	for name, number := range p.marks {
		o.marks[name] = number
	}
	return o
}

// both are marks and a page to which the same is done.
type both struct {
	m *marks.Marks
	p *page
}

func bothMarked(t testing.TB, lines ...int) both {
	t.Helper()
	b := both{marked(t, lines...), newPage()}
	for i, line := range lines {
		b.p.Set(byte('a'+i), line)
	}
	return b
}

func (b both) same(t testing.TB, what string, args ...any) {
	t.Helper()
	if is, want := row(b.m.All()), b.p.told(); is != want {
		t.Fatalf("%s: the marks are %q, want %q", fmt.Sprintf(what, args...), is, want)
	}
}

func (b both) splice(t testing.TB, line, n, lines int) {
	t.Helper()
	b.m.Splice(line, n, lines)
	b.p.Splice(line, n, lines)
	b.same(t, "Splice(%d, %d, %d)", line, n, lines)
}

func (b both) move(t testing.TB, from, to, behind int) {
	t.Helper()
	b.m.Move(from, to, behind)
	b.p.Move(from, to, behind)
	b.same(t, "Move(%d, %d, %d)", from, to, behind)
}

// TestEachSmallNumber: all calls with numbers of -1 to 11, of marks in lines 1 to 12.
func TestEachSmallNumber(t *testing.T) {
	for a := -1; a < 12; a++ {
		for b := -1; b < 12; b++ {
			for c := -1; c < 12; c++ {
				bothMarked(t, rising(12)...).splice(t, a, b, c)
				bothMarked(t, rising(12)...).move(t, a, b, c)
			}
		}
	}
}

// edges are numbers round those at which something becomes another thing.
func edges() []int {
	return []int{math.MinInt, math.MinInt + 1, -1 << 32, -top - 1, -top, -1, 0, 1, 2, 3, 1 << 30, top - 2, top - 1, top, top + 1, top + 2,
		1<<32 - 1, 1 << 32, 1<<32 + 1, math.MaxInt - 1, math.MaxInt}
}

// TestEachEdge: all calls with such numbers, of marks in such lines and, behind lines that were put in, beyond them.
func TestEachEdge(t *testing.T) {
	lines := []int{1, 2, 3, 4, 1<<30 - 1, 1 << 30, 1<<30 + 1, top - 3, top - 2, top - 1, top}
	for _, more := range []int{0, 1, 2, top} {
		for _, a := range edges() {
			for _, b := range edges() {
				for _, c := range edges() {
					x := bothMarked(t, lines...)
					x.splice(t, 3, 0, more)
					x.splice(t, a, b, c)
					x = bothMarked(t, lines...)
					x.splice(t, 3, 0, more)
					x.move(t, a, b, c)
				}
			}
		}
	}
}

// someNumber is small, or an edge, or any.
func someNumber(r *rand.Rand, small int) int {
	switch r.Intn(40) {
	case 0:
		return edges()[r.Intn(len(edges()))]
	case 1:
		return r.Intn(top) + 1
	case 2:
		return int(r.Uint64())
	}
	return r.Intn(small)
}

func someName(r *rand.Rand) byte {
	if r.Intn(8) == 0 {
		return byte(r.Intn(256))
	}
	return letters()[r.Intn(26)]
}

// step does one thing at random to both, and tells with which it goes on: these, or copies of them.
func (b both) step(t testing.TB, r *rand.Rand, small int) both {
	t.Helper()
	switch x, y, z := someNumber(r, small), someNumber(r, small), someNumber(r, small); r.Intn(8) {
	case 0, 1, 2:
		name := someName(r)
		if e, want := b.m.Set(name, x), b.p.Set(name, x); e != want {
			t.Fatalf("Set(%q, %d): error %d, want %d", name, x, e, want)
		}
		b.same(t, "Set(%q, %d)", name, x)
	case 3, 4:
		b.splice(t, x, y%5, z%5)
	case 5:
		b.splice(t, x, y, z)
	case 6:
		b.move(t, x, max(x, y), z)
	case 7:
		o := both{b.m.Copy(), b.p.clone()}
		o.same(t, "Copy")
		o.splice(t, y, z%3, x%3)
		o.m.Set(someName(r), 1)
		b.same(t, "Copy that was changed")
		o = both{b.m.Copy(), b.p.clone()}
		b.m.Set(someName(r), 1)
		b.m.Splice(1, small, 0)
		o.same(t, "Copy of what was changed")
		return o
	}
	return b
}

// TestAnyCalls: many calls one behind the other, in texts of a few lines and of many.
func TestAnyCalls(t *testing.T) {
	r := rand.New(rand.NewSource(10))
	for n := range 600 {
		b := both{marks.New(), newPage()}
		small := []int{4, 12, 40, 2000}[n%4]
		for range 100 {
			b = b.step(t, r, small)
		}
		if is := told(t, b.m); is != b.p.told() {
			t.Fatalf("the marks are %q, want %q", is, b.p.told())
		}
	}
}

// FuzzCalls: any name and any numbers, in calls one behind the other.
func FuzzCalls(f *testing.F) {
	f.Add(byte('a'), 5, 2, 1, 3)
	f.Add(byte('A'), 0, 7, 2, 0)
	f.Add(byte('z'), top, top, top, 0)
	f.Fuzz(func(t *testing.T, name byte, line, x, y, z int) {
		b := bothMarked(t, 1, 2, 3, 5, 8, 2000, top-1, top)
		if e, want := b.m.Set(name, line), b.p.Set(name, line); e != want {
			t.Fatalf("Set(%q, %d): error %d, want %d", name, line, e, want)
		}
		b.same(t, "Set(%q, %d)", name, line)
		b.splice(t, x, y, z)
		b.move(t, x, y, z)
		b.splice(t, line, z, y)
		b.move(t, y, z, line)
	})
}
