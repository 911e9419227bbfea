package pat_test

import (
	"fmt"
	"reflect"
	"strings"
	"testing"

	"emendator/api"
	"emendator/pat"
)

// told is what Parse answers, as one text: the pattern as it is printed, or the error's number, @, and its place.
func told(t *testing.T, s, last string) string {
	t.Helper()
	p, e, at := pat.Parse(s, last)
	if e != api.OK {
		if !reflect.DeepEqual(p, api.Pat{}) {
			t.Errorf("Parse(%q): a pattern beside error %d", s, e)
		}
		return fmt.Sprintf("%d@%d", e, at)
	}
	if at != 0 {
		t.Errorf("Parse(%q): the place %d without an error", s, at)
	}
	checkNodes(t, s, p)
	return pat.Print(p)
}

// checkNodes: the pattern is sound, each node stands in the tree, and has no field that its Op gives no meaning.
func checkNodes(t *testing.T, s string, p api.Pat) {
	t.Helper()
	if !pat.Sound(p) {
		t.Errorf("Parse(%q): not sound", s)
	}
	asked := 1
	for _, n := range p.Nodes {
		asked += len(n.Kids)
		n.Kids = nil
		if bare := only(n); !reflect.DeepEqual(n, bare) {
			t.Errorf("Parse(%q): the node %+v, want %+v", s, n, bare)
		}
	}
	if asked != len(p.Nodes) {
		t.Errorf("Parse(%q): %d nodes, %d of them in the tree", s, len(p.Nodes), asked)
	}
}

// only is the node with what its Op gives a meaning, and no more.
func only(n api.Node) api.Node {
	bare := api.Node{Op: n.Op}
	switch n.Op {
	case api.OpByte:
		bare.C = n.C
	case api.OpSet:
		bare.Set = n.Set
	case api.OpMany:
		bare.Min, bare.Max, bare.Lazy = n.Min, n.Max, n.Lazy
	case api.OpGroup, api.OpBack:
		bare.N = n.N
	}
	return bare
}

// example is a pattern, what ~ stands for in it, and what is to be told.
type example struct{ s, last, want string }

func checkAll(t *testing.T, all []example) {
	t.Helper()
	for _, x := range all {
		if is := told(t, x.s, x.last); is != x.want {
			t.Errorf("Parse(%q, %q): %s, want %s", x.s, x.last, is, x.want)
		}
	}
}

// bytesText is the text of bytes, one behind the other.
func bytesText(s string) string {
	text := ""
	for i := range len(s) {
		text += fmt.Sprintf("b%02x", s[i])
	}
	return text
}

// setOf is the text of a set of these bytes, worked out without the program.
func setOf(all string) string {
	var set api.Set
	for i := range len(all) {
		set[all[i]/64] |= 1 << (all[i] % 64)
	}
	return fmt.Sprintf("s%016x%016x%016x%016x", set[0], set[1], set[2], set[3])
}

// between are all bytes from the first to the last.
func between(first, last byte) string {
	all := []byte{}
	for c := int(first); c <= int(last); c++ {
		all = append(all, byte(c))
	}
	return string(all)
}

// but are all bytes but these.
func but(these string) string {
	all := []byte{}
	for c := range 256 {
		if strings.IndexByte(these, byte(c)) < 0 {
			all = append(all, byte(c))
		}
	}
	return string(all)
}
