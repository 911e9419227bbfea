package undo_test

import (
	"slices"
	"testing"

	"emendator/api"
	"emendator/undo"
)

// turned is the row of Turn; with the changes turned and turned again, which are the same.
func turned(t testing.TB, l []api.Delta) string {
	t.Helper()
	var is, twice string
	handed(t, l, func(l []api.Delta) {
		twice = out(t, undo.Turn(undo.Turn(l)))
		is = out(t, undo.Turn(l))
	})
	if twice != row(l) {
		t.Errorf("turned twice it is %s, was %s", twice, row(l))
	}
	return is
}

func TestTurn(t *testing.T) {
	for _, c := range []struct {
		l    []api.Delta
		want string
	}{
		{nil, ``},
		{[]api.Delta{}, ``},
		{[]api.Delta{{}}, `0[][]`},
		{[]api.Delta{one(3, "a", "b")}, `3["b"]["a"]`},
		{[]api.Delta{{At: 1, New: []string{"a", "b"}}}, `1["a" "b"][]`},
		{[]api.Delta{{At: 1, Old: []string{"a", "b"}}}, `1[]["a" "b"]`},
		{[]api.Delta{one(3, "a", "b"), one(1, "c", "d")}, `1["d"]["c"] 3["b"]["a"]`},
		{[]api.Delta{one(1, "a", "b"), {At: 2, Old: []string{"x"}, New: []string{"y", "z"}}, one(0, "p", "q")}, `0["q"]["p"] 2["y" "z"]["x"] 1["b"]["a"]`},
		{[]api.Delta{one(7, "a", "a"), one(7, "b", "c"), one(7, "d", "e"), one(6, "f", "g")}, `6["g"]["f"] 7["e"]["d"] 7["c"]["b"] 7["a"]["a"]`},
		{[]api.Delta{one(-5, "\x00\xff", "\n"), one(1<<62, "", "\"")}, `4611686018427387904["\""][""] -5["\n"]["\x00\xff"]`},
	} {
		if is := turned(t, c.l); is != c.want {
			t.Errorf("Turn of %s: %s, want %s", row(c.l), is, c.want)
		}
	}
}

// TestTurnIsNewMemory: no list of it is one that was handed in, or another one of it.
func TestTurnIsNewMemory(t *testing.T) {
	lines := []string{"x", "y"}
	l := []api.Delta{{At: 1, Old: lines, New: lines}, {At: 2, Old: lines, New: lines}}
	turned := undo.Turn(l)
	turned[0].Old[0] = "p"
	turned[1].New = append(turned[1].New[:1], "q")
	if is, want := row(turned), `2["p" "y"]["x" "y"] 1["x" "y"]["x" "q"]`; is != want {
		t.Errorf("it is %s, want %s", is, want)
	}
	if !slices.Equal(lines, []string{"x", "y"}) {
		t.Errorf("what was handed in is %q now", lines)
	}
}
