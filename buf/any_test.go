package buf_test

import (
	"math"
	"math/rand"
	"testing"

	"emendator/api"
	"emendator/buf"
)

// someChanges are at random, of a text that there may not be.
func someChanges(r *rand.Rand) []api.Delta {
	var all []api.Delta
	for range r.Intn(4) {
		all = append(all, api.Delta{At: someNumber(r, 6), Old: someLines(r, 3), New: someLines(r, 3)})
	}
	return all
}

// meddle changes what is there to be looked at behind the text's back: so the changes of its states are not its own any more.
func meddle(b *buf.Buf, r *rand.Rand) {
	switch s, m := b.States(), b.Marks(); r.Intn(7) {
	case 0:
		s.Add(someChanges(r))
	case 1:
		s.Undo()
	case 2:
		s.Redo()
	case 3:
		s.Go(r.Intn(9))
	case 4:
		m.Set(byte('a'+r.Intn(26)), math.MaxInt32-r.Intn(9))
	case 5:
		m.Splice(1+r.Intn(9), r.Intn(4), math.MaxInt32-r.Intn(9))
	case 6:
		m.Move(1, 1+r.Intn(4), math.MaxInt32-r.Intn(9))
	}
}

// TestMeddledWith: no call panics, whatever was done with the states and the marks; behind Back nothing is open all the same.
func TestMeddledWith(t *testing.T) {
	r := rand.New(rand.NewSource(6))
	for range 2000 {
		b := of(t, "a/b/c")
		for range 60 {
			meddle(b, r)
			n := someNumber(r, 6)
			switch r.Intn(10) {
			case 0, 1:
				b.Splice(n, r.Intn(3), someLines(r, 3))
			case 2:
				b.Move(n, n+r.Intn(3), someNumber(r, 6))
			case 3:
				b.Put(n)
			case 4:
				b.Commit()
			case 5:
				b.Undo()
			case 6:
				b.Redo()
			case 7:
				b.Go(r.Intn(9))
			case 8:
				b.Earlier(n)
			case 9:
				b.Later(n)
			}
			b.Line(n)
			b.Open()
			b.Cursor()
		}
		b.Back()
		if l := b.Open(); len(l) != 0 {
			t.Fatalf("behind Back %s is open", row(l))
		}
	}
}

// TestMarksAnywhere: a mark need not be of a line that is there; it goes as chapter 10 has it, and back.
func TestMarksAnywhere(t *testing.T) {
	b := of(t, "a/b/c")
	set(t, b, 'a', 4)
	set(t, b, 'b', math.MaxInt32)
	nothing(t, b)
	put(t, b, 1, 0, "x/y")
	checkMarks(t, b, "a6 b2147483649")
	goes(t, b.Move(1, 1, 5))
	checkMarks(t, b, "a6 b2147483649")
	b.Back()
	checkMarks(t, b, "a4 b2147483647")
	put(t, b, 1, 3, none)
	checkMarks(t, b, "a2 b2147483645")
	commit(t, b, 1)
	goes(t, b.Undo())
	checkMarks(t, b, "a4 b2147483647")
}
