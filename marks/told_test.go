package marks_test

import (
	"fmt"
	"strings"
	"testing"

	"emendator/api"
	"emendator/marks"
)

// top is the greatest line that a mark is set to.
const top = 1<<31 - 1

// told is what marks are, as the tests write it: a name and a line, and so on. It asks All and, of each byte there is, Get, twice: both say the same, each time.
func told(t testing.TB, m *marks.Marks) string {
	t.Helper()
	all := m.All()
	is := row(all)
	if by := row(got(t, m)); by != is {
		t.Fatalf("All is %q, by Get it is %q", is, by)
	}
	clear(all[:cap(all)])
	if again := row(m.All()); again != is {
		t.Fatalf("All is %q, then, with what came out written over, %q", is, again)
	}
	return is
}

func row(all []api.Mark) string {
	var words []string
	for _, one := range all {
		words = append(words, fmt.Sprintf("%c%d", one.Name, one.Line))
	}
	return strings.Join(words, " ")
}

// got are the marks that Get tells, of rising bytes.
func got(t testing.TB, m *marks.Marks) []api.Mark {
	t.Helper()
	var all []api.Mark
	for n := range 256 {
		name := byte(n)
		line, e := m.Get(name)
		switch {
		case e == api.OK:
			all = append(all, api.Mark{Name: name, Line: line})
		case e != api.ErrMark || line != 0:
			t.Fatalf("Get(%q): %d, error %d", name, line, e)
		}
	}
	return all
}

func check(t testing.TB, m *marks.Marks, want string) {
	t.Helper()
	if is := told(t, m); is != want {
		t.Errorf("the marks are %q, want %q", is, want)
	}
}

func set(t testing.TB, m *marks.Marks, name byte, line int) {
	t.Helper()
	if e := m.Set(name, line); e != api.OK {
		t.Fatalf("Set(%q, %d): error %d", name, line, e)
	}
}

// marked are marks of these lines: a, b, and so on.
func marked(t testing.TB, lines ...int) *marks.Marks {
	t.Helper()
	m := marks.New()
	for i, line := range lines {
		set(t, m, byte('a'+i), line)
	}
	return m
}

// rising are lines 1 to n.
func rising(n int) []int {
	var all []int
	for line := range n {
		all = append(all, line+1)
	}
	return all
}

// places are the lines in which a, b, and so on stand, as one writes them; 0: gone.
func places(lines ...int) string {
	var all []api.Mark
	for i, line := range lines {
		if line != 0 {
			all = append(all, api.Mark{Name: byte('a' + i), Line: line})
		}
	}
	return row(all)
}

// letters are a to z.
func letters() []byte { return []byte("abcdefghijklmnopqrstuvwxyz") }
