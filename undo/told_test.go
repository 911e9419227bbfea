package undo_test

import (
	"fmt"
	"slices"
	"strings"
	"testing"

	"emendator/api"
	"emendator/undo"
)

// one is a change: at some line one line in the place of another.
func one(at int, old, new string) api.Delta {
	return api.Delta{At: at, Old: []string{old}, New: []string{new}}
}

// row is changes as the tests write them: at which line, what was there, what is put in its place; and so on.
func row(l []api.Delta) string {
	var words []string
	for _, d := range l {
		words = append(words, fmt.Sprintf("%d%q%q", d.At, d.Old, d.New))
	}
	return strings.Join(words, " ")
}

// by is the change of the n-th state that makes adds, and its row, as it was made or turned.
func by(n int) api.Delta { return one(n, fmt.Sprint("-", n), fmt.Sprint("+", n)) }

// ways are the rows of by, one behind the other; a number below 0: turned.
func ways(all ...int) string {
	var l []api.Delta
	for _, n := range all {
		d := by(max(n, -n))
		if n < 0 {
			d.Old, d.New = d.New, d.Old
		}
		l = append(l, d)
	}
	return row(l)
}

// lies stands behind the lengths of lists that are handed in, gone in those that are written over.
const lies, gone = "lies behind", "written over"

// behind is a list with more in the memory behind its length.
func behind[E any](l []E, more E) []E {
	return append(slices.Clone(l), more, more)[:len(l)]
}

// spoilt are changes that are the same, in memory of which more lies behind each list's length.
func spoilt(l []api.Delta) []api.Delta {
	var all []api.Delta
	for _, d := range l {
		all = append(all, api.Delta{At: d.At, Old: behind(d.Old, lies), New: behind(d.New, lies)})
	}
	return behind(all, one(77, lies, lies))
}

// whole is changes with all that lies behind the lists' lengths.
func whole(l []api.Delta) string {
	l = slices.Clone(l[:cap(l)])
	for i, d := range l {
		l[i].Old, l[i].New = d.Old[:cap(d.Old)], d.New[:cap(d.New)]
	}
	return row(l)
}

// over writes over changes, and all that lies behind the lists' lengths.
func over(l []api.Delta) {
	l = l[:cap(l)]
	for i, d := range l {
		for _, lines := range [][]string{d.Old[:cap(d.Old)], d.New[:cap(d.New)]} {
			for j := range lines {
				lines[j] = gone
			}
		}
		l[i] = one(99, gone, gone)
	}
}

// handed hands changes in, says that they stayed as they were, with all that lies behind them, and writes over them.
func handed(t testing.TB, l []api.Delta, do func([]api.Delta)) {
	t.Helper()
	l = spoilt(l)
	was := whole(l)
	do(l)
	if is := whole(l); is != was {
		t.Fatalf("what was handed in is %s, was %s", is, was)
	}
	over(l)
}

// out is the row of changes that came out; nothing of what is behind their lengths was anywhere. Then it writes over them.
func out(t testing.TB, l []api.Delta) string {
	t.Helper()
	is := row(l)
	if all := whole(l); strings.Contains(all, lies) || strings.Contains(all, gone) {
		t.Fatalf("with what lies behind its length it is %s", all)
	}
	over(l)
	return is
}

// tree is one for so many states.
func tree(t testing.TB, most int) *undo.Tree {
	t.Helper()
	x := undo.New(most)
	if x == nil {
		t.Fatalf("New(%d) is nil", most)
	}
	return x
}

// add is Add of changes.
func add(t testing.TB, x *undo.Tree, l ...api.Delta) int {
	t.Helper()
	var seq int
	handed(t, l, func(l []api.Delta) { seq = x.Add(l) })
	return seq
}

// adds adds states of the numbers from one to another, each by its own change.
func adds(t testing.TB, x *undo.Tree, from, to int) {
	t.Helper()
	for n := from; n <= to; n++ {
		if seq := add(t, x, by(n)); seq != n {
			t.Fatalf("Add: %d, want %d", seq, n)
		}
	}
}

// told is what the states are, as the tests write it: each one's number and that of its FROM, and which one is NOW. It asks twice, and writes over what came out.
func told(t testing.TB, x *undo.Tree) string {
	t.Helper()
	is := stateRow(x)
	all := x.States()
	for i := range all[:cap(all)] {
		all[:cap(all)][i] = api.State{Seq: 55, From: 66}
	}
	if again := stateRow(x); again != is {
		t.Fatalf("the states are %s, then, with what came out written over, %s", is, again)
	}
	return is
}

func stateRow(x *undo.Tree) string {
	var words []string
	for _, s := range x.States() {
		words = append(words, fmt.Sprintf("%d.%d", s.Seq, s.From))
	}
	return strings.Join(words, " ") + " now " + fmt.Sprint(x.Now())
}

func check(t testing.TB, x *undo.Tree, want string) {
	t.Helper()
	if is := told(t, x); is != want {
		t.Errorf("the states are %s, want %s", is, want)
	}
}

// call is what one of the calls that lead to another state answers: its changes' row, or its error, beside which there is nothing.
func call(t testing.TB, l []api.Delta, e api.Errno) string {
	t.Helper()
	if e != api.OK {
		if len(l) != 0 {
			t.Fatalf("error %d, and with it %s", e, row(l))
		}
		return fmt.Sprint("error ", uint16(e))
	}
	return out(t, l)
}

const (
	end  = "error 121"
	lost = "error 120"
	arg  = "error 1"
)

// leads says that a call answered what it should: changes, in order, or an error; and which one is NOW then.
func leads(t testing.TB, x *undo.Tree, now int, want string) func([]api.Delta, api.Errno) {
	return func(l []api.Delta, e api.Errno) {
		t.Helper()
		if is := call(t, l, e); is != want {
			t.Errorf("it tells %s, want %s", is, want)
		}
		if is := x.Now(); is != now {
			t.Errorf("the state is %d, want %d", is, now)
		}
	}
}
