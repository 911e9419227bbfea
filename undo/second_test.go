package undo_test

import (
	"fmt"
	"math/rand"
	"slices"
	"strings"
	"testing"

	"emendator/api"
	"emendator/undo"
)

// The chapter's sentences again, of another make: all states that ever were stand in a list; each knows its whole line, from the first that was till itself, and its FROM and way ON by pointers; which goes is found by going through the list.

type leaf struct {
	seq      int
	from, on *leaf
	line     []*leaf
	by       []api.Delta
	gone     bool
}

type wood struct {
	all  []*leaf
	now  *leaf
	most int
}

func newWood(most int) *wood {
	first := &leaf{}
	first.line = []*leaf{first}
	return &wood{all: []*leaf{first}, now: first, most: most}
}

// made are the states made from one that are there.
func (w *wood) made(from *leaf) []*leaf {
	var all []*leaf
	for _, l := range w.there() {
		if l.from == from {
			all = append(all, l)
		}
	}
	return all
}

func (w *wood) there() []*leaf {
	var all []*leaf
	for _, l := range w.all {
		if !l.gone {
			all = append(all, l)
		}
	}
	return all
}

func (w *wood) add(by []api.Delta) string {
	l := &leaf{seq: len(w.all), from: w.now, by: by}
	l.line = append(slices.Clone(w.now.line), l)
	w.all = append(w.all, l)
	w.now.on = l
	w.now = l
	for len(w.there()) > w.most {
		w.lose()
	}
	return fmt.Sprint(l.seq)
}

func (w *wood) lose() {
	for _, l := range w.there() {
		if l != w.now && len(w.made(l)) == 0 {
			l.gone = true
			if l.from.on == l {
				l.from.on = nil
				if left := w.made(l.from); len(left) > 0 {
					l.from.on = left[len(left)-1]
				}
			}
			return
		}
	}
	first := w.there()[0]
	first.gone = true
	for _, l := range w.all {
		if l.from == first {
			l.from, l.by = nil, nil
		}
	}
}

func (w *wood) undo() string {
	if w.now.from == nil {
		return end
	}
	was := w.now
	w.now = was.from
	w.now.on = was
	return row(turn(was.by))
}

func turn(l []api.Delta) []api.Delta {
	var all []api.Delta
	for i := len(l) - 1; i >= 0; i-- {
		all = append(all, api.Delta{At: l[i].At, Old: l[i].New, New: l[i].Old})
	}
	return all
}

func (w *wood) redo() string {
	if w.now.on == nil {
		return end
	}
	w.now = w.now.on
	return row(w.now.by)
}

func (w *wood) to(seq int) string {
	if seq < 0 || seq >= len(w.all) || w.all[seq].gone {
		return lost
	}
	to := w.all[seq]
	var words []string
	for !slices.Contains(to.line, w.now) {
		words = append(words, w.undo())
	}
	for _, next := range to.line[slices.Index(to.line, w.now)+1:] {
		w.now.on = next
		words = append(words, w.redo())
	}
	return strings.Join(slices.DeleteFunc(words, func(word string) bool { return word == "" }), " ")
}

// nth goes to the n-th state of those that are lesser, greater.
func (w *wood) nth(n int, lesser bool) string {
	if n < 1 {
		return arg
	}
	all := w.there()
	if lesser {
		slices.Reverse(all)
	}
	all = all[slices.Index(all, w.now)+1:]
	switch {
	case len(all) == 0:
		return end
	case n > len(all):
		n = len(all)
	}
	return w.to(all[n-1].seq)
}

func (w *wood) told() string {
	var words []string
	for _, l := range w.there() {
		from := -1
		if l.from != nil {
			from = l.from.seq
		}
		words = append(words, fmt.Sprintf("%d.%d", l.seq, from))
	}
	return strings.Join(words, " ") + " now " + fmt.Sprint(w.now.seq)
}

// both are a tree and a wood to which the same is done.
type both struct {
	x *undo.Tree
	w *wood
}

func newBoth(t testing.TB, most int) both { return both{tree(t, most), newWood(most)} }

// do does to both what a letter says: a is Add, u Undo, r Redo, g Go, e Earlier, any other Later; of a number, or of changes.
func (b both) do(t testing.TB, what byte, n int, l []api.Delta) (is, want string) {
	t.Helper()
	told := func(l []api.Delta, e api.Errno) string { return call(t, l, e) }
	switch what {
	case 'a':
		return fmt.Sprint(add(t, b.x, l...)), b.w.add(l)
	case 'u':
		return told(b.x.Undo()), b.w.undo()
	case 'r':
		return told(b.x.Redo()), b.w.redo()
	case 'g':
		return told(b.x.Go(n)), b.w.to(n)
	case 'e':
		return told(b.x.Earlier(n)), b.w.nth(n, true)
	}
	return told(b.x.Later(n)), b.w.nth(n, false)
}

// same does the same to both: they tell the same, and are the same then.
func (b both) same(t testing.TB, what byte, n int, l []api.Delta) {
	t.Helper()
	was := b.w.told()
	if is, want := b.do(t, what, n, l); is != want {
		t.Fatalf("%c %d of %s: %s, want %s", what, n, was, is, want)
	}
	if is, want := stateRow(b.x), b.w.told(); is != want {
		t.Fatalf("%c %d of %s: the states are %s, want %s", what, n, was, is, want)
	}
}

// someChanges are any changes at all: nothing says that a text could have them.
func someChanges(r *rand.Rand) []api.Delta {
	var l []api.Delta
	for range r.Intn(3) {
		d := api.Delta{At: r.Intn(9) - 2}
		for range r.Intn(3) {
			d.Old = append(d.Old, string(rune('a'+r.Intn(26))))
		}
		for range r.Intn(3) {
			d.New = append(d.New, string([]byte{byte(r.Intn(256))}))
		}
		l = append(l, d)
	}
	return l
}

// TestAnyCalls: many calls one behind the other, of trees with room for few states and for many.
func TestAnyCalls(t *testing.T) {
	r := rand.New(rand.NewSource(13))
	for n := range 120 {
		most := []int{1, 2, 3, 4, 5, 7, 10, 15, 40, 200}[n%10]
		b := newBoth(t, most)
		for range 20 + 3*most {
			what := "aaaaauuurrgggel"[r.Intn(15)]
			of := r.Intn(4)
			if what == 'g' {
				of = len(b.w.all) - r.Intn(min(len(b.w.all)+2, 3*most))
			}
			b.same(t, what, of, someChanges(r))
			told(t, b.x)
		}
		b.ways(t, r)
	}
}

// ways goes to each state that is there, in some order, and on from there as far as it goes.
func (b both) ways(t testing.TB, r *rand.Rand) {
	t.Helper()
	all := b.x.States()
	for _, i := range r.Perm(len(all)) {
		b.same(t, 'g', all[i].Seq, nil)
		for range r.Intn(4) {
			b.same(t, 'r', 0, nil)
		}
	}
}

// TestAllCalls: all that can be done in four calls one behind the other, of eight kinds, where there were some ahead of them.
func TestAllCalls(t *testing.T) {
	const kinds = "a0u0r0g0g1g2e1l1"
	for _, ahead := range []string{"", "a0a0g0a0", "a0g0a0g0a0g1"} {
		for _, most := range []int{1, 2, 3, 4} {
			for code := range 8 * 8 * 8 * 8 {
				b := newBoth(t, most)
				calls := ahead
				for ; len(calls) < len(ahead)+8; code /= 8 {
					calls += kinds[code%8*2:][:2]
				}
				for i := 0; i < len(calls); i += 2 {
					b.same(t, calls[i], int(calls[i+1]-'0'), []api.Delta{by(i)})
				}
			}
		}
	}
}

// FuzzCalls: any calls of any numbers, any lines.
func FuzzCalls(f *testing.F) {
	f.Add(byte(3), "a1a1u1a1g1r1", "x\ny")
	f.Add(byte(1), "a0a0u0l1e1", "")
	f.Add(byte(200), "aaaaaguaaaaagaaaareela", "\x00\xff\n\n")
	f.Fuzz(func(t *testing.T, most byte, text, line string) {
		if strings.Contains(line, lies) || strings.Contains(line, gone) || len(text) > 1000 {
			t.Skip()
		}
		b := newBoth(t, int(most)%8+1)
		for i := 0; i+1 < len(text); i += 2 {
			n := int(int8(text[i+1])) - '0'
			lines := strings.Split(line, "\n")
			b.same(t, text[i], n, []api.Delta{{At: n, Old: lines[:i%(len(lines)+1)], New: lines}})
		}
	})
}
