package undo_test

import (
	"fmt"
	"math/rand"
	"slices"
	"testing"

	"emendator/api"
	"emendator/undo"
)

// page is a text, the states of which stand in a tree, and what it was in each.
type page struct {
	x     *undo.Tree
	lines []string
	were  map[int][]string
}

func newPage(t testing.TB, most int, lines []string) *page {
	t.Helper()
	return &page{tree(t, most), lines, map[int][]string{0: slices.Clone(lines)}}
}

// make makes changes; what they are to take away is there.
func (p *page) make(t testing.TB, l []api.Delta) {
	t.Helper()
	for _, d := range l {
		to := d.At + len(d.Old)
		if d.At < 0 || to > len(p.lines) || !slices.Equal(p.lines[d.At:to], d.Old) {
			t.Fatalf("of %q it is to take away %q at %d", p.lines, d.Old, d.At)
		}
		p.lines = slices.Concat(p.lines[:d.At], d.New, p.lines[to:])
	}
}

// some is a change at random that could be made to lines.
func some(r *rand.Rand, lines []string) api.Delta {
	from := r.Intn(len(lines) + 1)
	to := from + r.Intn(min(3, len(lines)-from)+1)
	var new []string
	for range r.Intn(4) {
		line := make([]byte, r.Intn(3))
		for i := range line {
			line[i] = "ab\n\x00\xff"[r.Intn(5)]
		}
		new = append(new, string(line))
	}
	return api.Delta{At: from, Old: slices.Clone(lines[from:to]), New: new}
}

// edit makes some changes, and a state of them.
func (p *page) edit(t testing.TB, r *rand.Rand) {
	t.Helper()
	var l []api.Delta
	for range r.Intn(4) {
		d := some(r, p.lines)
		p.make(t, []api.Delta{d})
		l = append(l, d)
	}
	p.were[add(t, p.x, l...)] = slices.Clone(p.lines)
}

// leads says that a call's changes lead to the text as it was in the state that is NOW.
func (p *page) leads(t testing.TB, what string) func([]api.Delta, api.Errno) {
	return func(l []api.Delta, e api.Errno) {
		t.Helper()
		p.make(t, l)
		if want := p.were[p.x.Now()]; !slices.Equal(p.lines, want) {
			t.Fatalf("%s: the text of state %d is %q, was %q", what, p.x.Now(), p.lines, want)
		}
		over(l)
	}
}

// TestTextsOfStates: to whatever state one goes, by whatever call, the changes that are told lead there, as long as it is there.
func TestTextsOfStates(t *testing.T) {
	r := rand.New(rand.NewSource(12))
	for _, most := range []int{1, 2, 3, 5, 9, 30, 200} {
		p := newPage(t, most, []string{"a", "b", "c"})
		for range 800 {
			switch n := r.Intn(12); n {
			case 0, 1, 2, 3, 4:
				p.edit(t, r)
			case 5, 6:
				p.leads(t, "Undo")(p.x.Undo())
			case 7:
				p.leads(t, "Redo")(p.x.Redo())
			case 8:
				p.leads(t, "Earlier")(p.x.Earlier(r.Intn(6)))
			case 9:
				p.leads(t, "Later")(p.x.Later(r.Intn(6)))
			default:
				seq := len(p.were) - r.Intn(min(len(p.were), 2*most)) - 1
				p.leads(t, fmt.Sprint("Go ", seq))(p.x.Go(seq))
			}
		}
		for _, s := range p.x.States() {
			p.leads(t, fmt.Sprint("Go ", s.Seq))(p.x.Go(s.Seq))
			if p.x.Now() != s.Seq {
				t.Errorf("Go(%d): the state is %d", s.Seq, p.x.Now())
			}
		}
	}
}
