package tree

import "slices"

// Each node but the top one has least to most lines or nodes.
const (
	least = 4
	most  = 8
)

// node has lines, if it is of the last level, else the numbers of nodes of the next one: never both.
type node struct {
	lines []string
	kids  []int
	count int // of lines in it and below it
	bytes int // of those lines
}

// fresh is the number of a node that has nothing.
func (t *Tree) fresh() int {
	if n := len(t.gone); n > 0 {
		at := t.gone[n-1]
		t.gone = t.gone[:n-1]
		return at
	}
	t.nodes = append(t.nodes, node{})
	return len(t.nodes) - 1
}

// drop empties the node, lest it hold lines that are no longer there, and keeps its number for fresh.
func (t *Tree) drop(at int) {
	t.nodes[at] = node{}
	t.gone = append(t.gone, at)
}

// last says whether the node is of the last level.
func (t *Tree) last(at int) bool { return len(t.nodes[at].kids) == 0 }

func (t *Tree) width(at int) int {
	return len(t.nodes[at].lines) + len(t.nodes[at].kids)
}

// kid is which of the node's kids the i-th line stands in, and its place there; a place behind all lines is in the last kid.
func (t *Tree) kid(at, i int) (int, int) {
	kids, k := t.nodes[at].kids, 0
	for ; k < len(kids)-1 && i >= t.nodes[kids[k]].count; k++ {
		i -= t.nodes[kids[k]].count
	}
	return k, i
}

// pieces hands the lines from the i-th on to see, node by node, till that says false; it must not keep them.
func (t *Tree) pieces(at, i int, see func(lines []string) bool) bool {
	n := t.nodes[at]
	if t.last(at) {
		return see(n.lines[i:])
	}
	k, i := t.kid(at, i)
	for _, kid := range n.kids[k:] {
		if !t.pieces(kid, i, see) {
			return false
		}
		i = 0
	}
	return true
}

// change has do change the lines of the node in which the i-th place is the k-th, and makes the whole a tree of the right shape again.
func (t *Tree) change(i int, do func(lines []string, k int) []string) {
	t.changeIn(t.top, i, do)
	switch w := t.width(t.top); {
	case w > most:
		t.grow()
	case w == 1 && !t.last(t.top):
		t.shrink()
	}
}

// changeIn mends all below the node, but not the node itself, whose width may be one off.
func (t *Tree) changeIn(at, i int, do func(lines []string, k int) []string) {
	if t.last(at) {
		t.nodes[at].lines = do(t.nodes[at].lines, i)
	} else {
		k, i := t.kid(at, i)
		t.changeIn(t.nodes[at].kids[k], i, do)
		t.mend(at, k)
	}
	t.weigh(at)
}

// grow lays a new top over the old one, which is too wide, and splits that.
func (t *Tree) grow() {
	top := t.fresh()
	t.nodes[top].kids = []int{t.top}
	t.top = top
	t.split(top, 0)
	t.weigh(top)
}

// shrink takes the top away, which has but one kid: that is the top now.
func (t *Tree) shrink() {
	old := t.top
	t.top = t.nodes[old].kids[0]
	t.drop(old)
}

// mend gives the node's k-th kid a width that is allowed.
func (t *Tree) mend(at, k int) {
	kids := t.nodes[at].kids
	switch w := t.width(kids[k]); {
	case w > most:
		t.split(at, k)
	case w < least:
		k = min(k, len(kids)-2)
		t.join(at, k)
		if t.width(kids[k]) > most {
			t.split(at, k)
		}
	}
}

// split moves the second half of the node's k-th kid to a new kid behind it.
func (t *Tree) split(at, k int) {
	right := t.fresh()
	left := t.nodes[at].kids[k]
	from, to := &t.nodes[left], &t.nodes[right]
	from.lines, to.lines = halves(from.lines)
	from.kids, to.kids = halves(from.kids)
	t.nodes[at].kids = slices.Insert(t.nodes[at].kids, k+1, right)
	t.weigh(left)
	t.weigh(right)
}

// join moves all that the kid behind the node's k-th has to the k-th.
func (t *Tree) join(at, k int) {
	left, right := t.nodes[at].kids[k], t.nodes[at].kids[k+1]
	to, from := &t.nodes[left], &t.nodes[right]
	to.lines = append(to.lines, from.lines...)
	to.kids = append(to.kids, from.kids...)
	t.nodes[at].kids = slices.Delete(t.nodes[at].kids, k+1, k+2)
	t.drop(right)
	t.weigh(left)
}

// halves copies the second half and clears it in the first one's memory, lest that hold what it no longer has.
func halves[T any](all []T) (first, second []T) {
	half := len(all) / 2
	second = slices.Clone(all[half:])
	return slices.Delete(all, half, len(all)), second
}

// weigh counts anew the lines and bytes of the node, all below it being counted.
func (t *Tree) weigh(at int) {
	n := &t.nodes[at]
	n.count, n.bytes = len(n.lines), 0
	for _, line := range n.lines {
		n.bytes += len(line)
	}
	for _, kid := range n.kids {
		n.count += t.nodes[kid].count
		n.bytes += t.nodes[kid].bytes
	}
}
