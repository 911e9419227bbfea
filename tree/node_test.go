package tree

import (
	"slices"
	"strconv"
	"testing"
)

// standing lists the numbers of the nodes that are reached from this one on.
func (t *Tree) standing(at int) []int {
	all := []int{at}
	for _, kid := range t.nodes[at].kids {
		all = append(all, t.standing(kid)...)
	}
	return all
}

// checkNumbers: each node of the list stands in the tree or is gone, one time in all, and one that is gone holds nothing.
func checkNumbers(t *testing.T, x *Tree) {
	t.Helper()
	all := append(x.standing(x.top), x.gone...)
	slices.Sort(all)
	for i, at := range all {
		if at != i {
			t.Fatalf("nodes that stand or are gone: %v", all)
		}
	}
	if len(all) != len(x.nodes) {
		t.Fatalf("%d nodes in the list, %d stand or are gone", len(x.nodes), len(all))
	}
	for _, at := range x.gone {
		if n := x.nodes[at]; n.lines != nil || n.kids != nil || n.count != 0 || n.bytes != 0 {
			t.Fatalf("node %d is gone and holds %v", at, n)
		}
	}
}

func TestWhatIsGoneIsUsedAgain(t *testing.T) {
	lines := make([]string, 500)
	for i := range lines {
		lines[i] = strconv.Itoa(i)
	}
	x := New(lines)
	checkNumbers(t, x)
	most := len(x.nodes)
	for range 5 {
		for x.Len() > 0 {
			x.Delete(x.Len() / 2)
			checkNumbers(t, x)
		}
		if len(x.nodes) != most || len(x.gone) != most-1 {
			t.Fatalf("emptied: %d nodes, %d gone, of %d", len(x.nodes), len(x.gone), most)
		}
		x.Splice(0, 0, lines)
		checkNumbers(t, x)
		if len(x.nodes) != most {
			t.Fatalf("filled again: %d nodes, %d before", len(x.nodes), most)
		}
	}
}

// TestNoLineIsHeldThatIsGone: behind the lists of a node nothing stays that the tree no longer has.
func TestNoLineIsHeldThatIsGone(t *testing.T) {
	x := New(nil)
	for i := range 300 {
		x.Insert(i/2, strconv.Itoa(i))
	}
	for i := range 250 {
		x.Delete(i * 7 % x.Len())
	}
	for at, n := range x.nodes {
		for _, line := range n.lines[len(n.lines):cap(n.lines)] {
			if line != "" {
				t.Errorf("node %d holds %q behind its lines", at, line)
			}
		}
	}
}
