package marks_test

import (
	"testing"

	"emendator/marks"
)

func TestCopyIsTheSame(t *testing.T) {
	for n := range 27 {
		m := marked(t, rising(n)...)
		check(t, m.Copy(), places(rising(n)...))
		check(t, m, places(rising(n)...))
	}
}

// TestCopyIsAnother: what is done with the one is not seen in the other, whichever it is.
func TestCopyIsAnother(t *testing.T) {
	for _, one := range []struct {
		what string
		do   func(m *marks.Marks)
		want string
	}{
		{"Set", func(m *marks.Marks) { m.Set('d', 1) }, "a3 b5 c7 d1"},
		{"Set again", func(m *marks.Marks) { m.Set('b', 1) }, "a3 b1 c7"},
		{"Splice that moves", func(m *marks.Marks) { m.Splice(4, 0, 2) }, "a3 b7 c9"},
		{"Splice that takes away", func(m *marks.Marks) { m.Splice(5, 1, 0) }, "a3 c6"},
		{"Splice that takes all away", func(m *marks.Marks) { m.Splice(1, 9, 0) }, ""},
		{"Move", func(m *marks.Marks) { m.Move(7, 7, 0) }, "a4 b6 c1"},
	} {
		m := marked(t, 3, 5, 7)
		o := m.Copy()
		one.do(o)
		t.Log(one.what)
		check(t, m, "a3 b5 c7")
		check(t, o, one.want)
		o = m.Copy()
		one.do(m)
		check(t, m, one.want)
		check(t, o, "a3 b5 c7")
	}
}

// TestCopyOfNone: it is there to be set, too.
func TestCopyOfNone(t *testing.T) {
	m := marks.New()
	o := m.Copy()
	check(t, o, "")
	set(t, o, 'a', 4)
	check(t, m, "")
	check(t, o, "a4")
	m = marked(t, 2)
	m.Splice(2, 1, 0)
	o = m.Copy()
	set(t, o, 'z', 4)
	check(t, m, "")
	check(t, o, "z4")
}

func TestCopyOfACopy(t *testing.T) {
	m := marked(t, 3, 5)
	o := m.Copy()
	p := o.Copy()
	m.Splice(1, 3, 0)
	o.Splice(1, 0, 1)
	set(t, p, 'c', 9)
	check(t, m, "b2")
	check(t, o, "a4 b6")
	check(t, p, "a3 b5 c9")
}
