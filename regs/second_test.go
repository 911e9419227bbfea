package regs_test

import (
	"math/rand"
	"slices"
	"strings"
	"testing"

	"emendator/api"
	"emendator/regs"
)

// The chapter's sentences again, of another make: what is in a register is one row of signs, a byte or a line's end, as many as the chapter counts; registers stand in an array.

// end is the sign of a line's end; the others are bytes.
const end = 256

// strip is what is in a register; no signs: nothing.
type strip struct {
	signs []int
	whole bool
}

func stripOf(x api.Reg) strip {
	if len(x.Lines) == 0 {
		return strip{signs: []int{end}}
	}
	s := strip{whole: x.Whole}
	for _, line := range x.Lines {
		for i := range len(line) {
			s.signs = append(s.signs, int(line[i]))
		}
		s.signs = append(s.signs, end)
	}
	return s
}

func (s strip) reg() api.Reg {
	x := api.Reg{Whole: s.whole}
	var line []byte
	for _, sign := range s.signs {
		if sign == end {
			x.Lines = append(x.Lines, string(line))
			line = nil
		} else {
			line = append(line, byte(sign))
		}
	}
	return x
}

// behind is s with o behind it: if neither is Whole, the last end of s is none.
func (s strip) behind(o strip) strip {
	if len(s.signs) == 0 {
		return o
	}
	either := s.whole || o.whole
	signs := slices.Clone(s.signs)
	if !either {
		signs = signs[:len(signs)-1]
	}
	return strip{signs: append(signs, o.signs...), whole: either}
}

type shelf [256]strip

// put is Yank, and the first part of Cut.
func (s *shelf) put(name byte, x api.Reg, numbers func(strip)) api.Errno {
	if !strings.Contains(known, string(rune(name))) {
		return api.ErrReg
	}
	if name == '_' {
		return api.OK
	}
	is := stripOf(x)
	if 'A' <= name && name <= 'Z' {
		is = s[name+'a'-'A'].behind(is)
		name += 'a' - 'A'
	}
	if len(is.signs) > most {
		return api.ErrRegLong
	}
	s[name], s['"'] = is, is
	if name == '"' {
		numbers(is)
	}
	return api.OK
}

func (s *shelf) Yank(name byte, x api.Reg) api.Errno {
	return s.put(name, x, func(is strip) { s['0'] = is })
}

func (s *shelf) Cut(name byte, x api.Reg) api.Errno {
	return s.put(name, x, func(is strip) {
		copy(s['2':'9'+1], s['1':'9'])
		s['1'] = is
	})
}

// same says that registers are as the shelf is.
func (s *shelf) same(t testing.TB, r *regs.Regs, what string) {
	t.Helper()
	is := contents(t, r)
	many := 0
	for n, one := range s {
		if len(one.signs) == 0 {
			continue
		}
		many++
		want, x := one.reg(), is[byte(n)]
		if x.Whole != want.Whole || !slices.Equal(x.Lines, want.Lines) {
			t.Fatalf("%s: in %q is %.80q %t, want %.80q %t", what, byte(n), x.Lines, x.Whole, want.Lines, want.Whole)
		}
	}
	if many != len(is) {
		t.Fatalf("%s: there is something in %d, want %d", what, len(is), many)
	}
}

// both are registers and a shelf to which the same is done.
type both struct {
	r *regs.Regs
	s *shelf
}

func (b both) yank(t testing.TB, name byte, x api.Reg) {
	t.Helper()
	if e, want := handed(t, x, yankOf(b.r, name)), b.s.Yank(name, x); e != want {
		t.Fatalf("Yank(%q) of %d lines: error %d, want %d", name, len(x.Lines), e, want)
	}
}

func (b both) cut(t testing.TB, name byte, x api.Reg) {
	t.Helper()
	if e, want := handed(t, x, cutOf(b.r, name)), b.s.Cut(name, x); e != want {
		t.Fatalf("Cut(%q) of %d lines: error %d, want %d", name, len(x.Lines), e, want)
	}
}

func (b both) copy() both {
	s := *b.s
	return both{b.r.Copy(), &s}
}

// someName is often one of a few, so that things meet in it.
func someName(r *rand.Rand) byte {
	switch r.Intn(10) {
	case 0:
		return byte(r.Intn(256))
	case 1, 2:
		return known[r.Intn(len(known))]
	}
	return `""""01279aAAb_Bz`[r.Intn(16)]
}

// someReg has few lines, short ones or long ones, of any bytes; where they are long, there may be many, too.
func someReg(r *rand.Rand, size int) api.Reg {
	x := api.Reg{Whole: r.Intn(2) == 0}
	for range r.Intn(5) {
		line := make([]byte, r.Intn(size))
		for i := range line {
			line[i] = byte(r.Intn(256))
		}
		x.Lines = append(x.Lines, string(line))
	}
	if size >= 300 && r.Intn(20) == 0 {
		x.Lines = append(x.Lines, empties(r.Intn(most+2))...)
	}
	return x
}

// step does one thing at random to both, and tells with which it goes on: these, or copies of them.
func (b both) step(t testing.TB, r *rand.Rand, size int) both {
	t.Helper()
	name, x := someName(r), someReg(r, size)
	switch r.Intn(12) {
	case 0:
		o := b.copy()
		o.yank(t, name, x)
		o.cut(t, '"', x)
		b.s.same(t, b.r, "what was copied")
		o = b.copy()
		b.cut(t, '"', x)
		b.yank(t, name, x)
		o.s.same(t, o.r, "the copy")
		return o
	case 1, 2, 3, 4, 5:
		b.yank(t, name, x)
	default:
		b.cut(t, name, x)
	}
	return b
}

// TestAnyCalls: many calls one behind the other, of short lines and of such as soon are too much.
func TestAnyCalls(t *testing.T) {
	r := rand.New(rand.NewSource(11))
	for n := range 160 {
		b := both{regs.New(), &shelf{}}
		size := []int{2, 8, 300, 6000}[n%4]
		for range 60 {
			b = b.step(t, r, size)
			if size < 300 {
				b.s.same(t, b.r, "any calls")
			}
		}
		b.s.same(t, b.r, "any calls")
	}
}

// TestEachTwoNames: something into each of two names, by both ways, of all names.
func TestEachTwoNames(t *testing.T) {
	for _, one := range []byte(known) {
		for _, other := range []byte(known) {
			b := both{regs.New(), &shelf{}}
			b.yank(t, one, part("x", "y"))
			b.cut(t, other, part("z", ""))
			b.s.same(t, b.r, "yanked, cut")
			b.cut(t, one, whole("p"))
			b.yank(t, other, part("q"))
			b.s.same(t, b.r, "cut, yanked")
		}
	}
}

// FuzzCalls: any names and any bytes, in calls one behind the other.
func FuzzCalls(f *testing.F) {
	f.Add(byte('a'), byte('A'), "x\ny", "z", true, false)
	f.Add(byte('"'), byte('_'), "", "\x00\xff", false, false)
	f.Add(byte('%'), byte('9'), xs(most), "\n\n", false, true)
	f.Fuzz(func(t *testing.T, one, other byte, p, q string, isP, isQ bool) {
		b := both{regs.New(), &shelf{}}
		x := api.Reg{Lines: strings.Split(p, "\n"), Whole: isP}
		y := api.Reg{Lines: []string{q, p}, Whole: isQ}
		for _, name := range []byte{one, other, '"', one} {
			b.yank(t, name, x)
			b.cut(t, name, y)
			b.cut(t, other, x)
			b.yank(t, other, api.Reg{Whole: isP})
			b.s.same(t, b.r, "any bytes")
		}
	})
}
