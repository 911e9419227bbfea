package find

import (
	"iter"

	"emendator/tree"
)

// lines are the lines that have these numbers, which must be there, each with its own. A line is taken from the tree only when it is its turn: one that is found soon costs little, however long the text is.
func lines(t *tree.Tree, numbers iter.Seq[int]) iter.Seq2[int, string] {
	return func(yield func(int, string) bool) {
		for n := range numbers {
			line, _ := t.Get(n - 1)
			if !yield(n, line) {
				return
			}
		}
	}
}

func rising(from, to int) iter.Seq[int] {
	return func(yield func(int) bool) {
		for n := from; n <= to; n++ {
			if !yield(n) {
				return
			}
		}
	}
}

// around are the numbers of all lines up to the last, as one comes by them that goes on from a line (or back), round the end: each once, so that line's own comes last.
func around(line, last int, back bool) iter.Seq[int] {
	return func(yield func(int) bool) {
		n := line
		for range last {
			n = beside(n, last, back)
			if !yield(n) {
				return
			}
		}
	}
}

// beside is the number behind a line's, or (back) ahead of it. Line 0 stands at both ends, for there is nothing of its own to come back to.
func beside(n, last int, back bool) int {
	switch {
	case back && n > 1:
		return n - 1
	case back:
		return last
	case n < last:
		return n + 1
	}
	return 1
}
