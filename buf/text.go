package buf

import (
	"slices"

	"emendator/api"
	"emendator/marks"
	"emendator/tree"
)

// spot is what a text has beside its lines and states. It is copied to be gone back to.
type spot struct {
	marks  marks.Marks
	cursor int
}

// copied is the same with marks of its own.
func (s spot) copied() spot { return spot{*s.marks.Copy(), s.cursor} }

// text is lines, which the tree numbers from 0 on, and what stands in them.
type text struct {
	*tree.Tree
	spot
}

func newText(lines []string) text {
	return text{tree.New(lines), spot{*marks.New(), 1}}
}

// put has the cursor in a line, or in the nearest one that is there.
func (t *text) put(n int) { t.cursor = min(max(n, 1), t.Len()) }

// lay makes a change of the lines alone.
func (t *text) lay(d api.Delta) { t.Splice(d.At, len(d.Old), d.New) }

// follow has the marks go where a change takes their lines.
func (t *text) follow(d api.Delta) { t.marks.Splice(d.At+1, len(d.Old), len(d.New)) }

// spliced is the change that puts lines in the place of n from one on; it leaves a line at least.
func (t *text) spliced(line, n int, lines []string) api.Delta {
	old, _ := t.Part(line-1, n)
	lines = slices.Clone(lines)
	if n == t.Len() {
		lines = atLeastOne(lines)
	}
	return api.Delta{At: line - 1, Old: old, New: lines}
}

// exchanged is the change by which the lines from first to middle and those behind them, up to last, change places.
func (t *text) exchanged(first, middle, last int) api.Delta {
	old, _ := t.Part(first-1, last-first+1)
	passed := middle - first + 1
	return api.Delta{At: first - 1, Old: old, New: slices.Concat(old[passed:], old[:passed])}
}

// atLeastOne are these lines, or, if there are none, an empty one.
func atLeastOne(lines []string) []string {
	if len(lines) == 0 {
		return []string{""}
	}
	return lines
}

// beyond is which limit a text of so many lines, these among them, is beyond.
func beyond(many int, lines []string) api.Errno {
	switch {
	case many > api.MaxLines:
		return api.ErrLimit
	case slices.ContainsFunc(lines, tooLong):
		return api.ErrLong
	}
	return api.OK
}

func tooLong(line string) bool { return len(line) > api.MaxLine }
