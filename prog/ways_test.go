package prog_test

import (
	"fmt"
	"testing"

	"emendator/api"
	"emendator/pat"
	"emendator/prog"
)

// slots are the places that a match remembers.
type slots [api.Slots]int

// end tells a match: the place behind it, and its slots.
func end(at int, s slots) string { return fmt.Sprint(at, s) }

// tried is the first match of a program at the beginning of a line: all tries that were laid aside stand in a list, the last one goes on first.
func tried(p api.Prog, line string) string {
	type try struct {
		pc, at int
		slots  slots
		rounds []int
	}
	first := try{rounds: make([]int, p.Rounds)}
	for i := 1; i < len(first.slots); i++ {
		first.slots[i] = -1
	}
	for tries := []try{first}; len(tries) > 0; {
		x := tries[len(tries)-1]
		tries = tries[:len(tries)-1]
		for ok := true; ok; {
			i := p.Code[x.pc]
			x.pc++
			switch i.Op {
			case api.InByte, api.InAny:
				ok = x.at < len(line) && (i.Op == api.InAny || line[x.at] == i.C)
				x.at++
			case api.InBol:
				ok = x.at == 0
			case api.InEol:
				ok = x.at == len(line)
			case api.InSave:
				x.slots[i.X] = x.at
			case api.InBack:
				x.at, ok = again(line, x.at, x.slots, i.X)
			case api.InSplit:
				tries = append(tries, try{i.Y, x.at, x.slots, append([]int{}, x.rounds...)})
				x.pc = i.X
			case api.InJump:
				x.pc = i.X
			case api.InStart:
				x.rounds[i.X] = x.at
			case api.InGone:
				ok = x.rounds[i.X] != x.at
			case api.InMatch:
				return end(x.at, x.slots)
			}
		}
	}
	return "none"
}

// again is the place behind what group n remembers, if that comes at a place.
func again(line string, at int, s slots, n int) (int, bool) {
	from, to := s[2*n], s[2*n+1]
	if from < 0 || to < from || at+to-from > len(line) || line[at:at+to-from] != line[from:to] {
		return at, false
	}
	return at + to - from, true
}

// walker goes through a tree itself, without a program, way by way: what is to come behind a node is handed to it as a function, which answers whether that is a match.
type walker struct {
	nodes []api.Node
	line  string
}

type then func(at int, s slots) bool

func (w walker) node(place, at int, s slots, then then) bool {
	n := w.nodes[place]
	switch n.Op {
	case api.OpEmpty:
		return then(at, s)
	case api.OpByte, api.OpAny:
		return at < len(w.line) && (n.Op == api.OpAny || w.line[at] == n.C) && then(at+1, s)
	case api.OpBol:
		return at == 0 && then(at, s)
	case api.OpEol:
		return at == len(w.line) && then(at, s)
	case api.OpZs:
		s[api.SlotZs] = at
		return then(at, s)
	case api.OpBack:
		behind, ok := again(w.line, at, s, n.N)
		return ok && then(behind, s)
	case api.OpGroup:
		s[2*n.N] = at
		return w.node(n.Kids[0], at, s, func(at int, s slots) bool {
			s[2*n.N+1] = at
			return then(at, s)
		})
	case api.OpCat:
		return w.cat(n.Kids, at, s, then)
	case api.OpAlt:
		for _, kid := range n.Kids {
			if w.node(kid, at, s, then) {
				return true
			}
		}
		return false
	}
	return w.many(n, at, s, then)
}

func (w walker) cat(kids []int, at int, s slots, then then) bool {
	if len(kids) == 0 {
		return then(at, s)
	}
	return w.node(kids[0], at, s, func(at int, s slots) bool { return w.cat(kids[1:], at, s, then) })
}

// many: a time that must be may be of nothing, one that may be must go on.
func (w walker) many(n api.Node, from int, s slots, then then) bool {
	once := func(must bool) bool {
		return w.node(n.Kids[0], from, s, func(at int, s slots) bool {
			fewer := n
			fewer.Min = max(n.Min-1, 0)
			fewer.Max = max(n.Max-1, min(n.Max, 0))
			return (must || at != from) && w.many(fewer, at, s, then)
		})
	}
	switch {
	case n.Min > 0:
		return once(true)
	case n.Max == 0:
		return then(from, s)
	case n.Lazy:
		return then(from, s) || once(false)
	}
	return once(false) || then(from, s)
}

// walked is the first match of a tree at the beginning of a line.
func walked(p api.Pat, line string) string {
	told := "none"
	var s slots
	for i := 1; i < len(s); i++ {
		s[i] = -1
	}
	walker{p.Nodes, line}.node(p.Root, 0, s, func(at int, s slots) bool {
		told = end(at, s)
		return true
	})
	return told
}

// checkWays: the program comes to the same first match as the tree does.
func checkWays(t *testing.T, p api.Pat, lines []string) {
	t.Helper()
	c, e := prog.Compile(p, false)
	if e != api.OK {
		t.Fatalf("%s: error %d", pat.Print(p), e)
	}
	for _, line := range lines {
		if is, want := tried(c, line), walked(p, line); is != want {
			t.Errorf("%s on %q: %s, want %s", pat.Print(p), line, is, want)
		}
	}
}

// TestFirstOfAllWays: of all small trees, on short lines.
func TestFirstOfAllWays(t *testing.T) {
	lines := []string{"", "a", "b", "aa", "ab", "ba", "aaa", "aab", "aba", "aaaa", "abab"}
	for _, all := range allShapes(4) {
		for _, x := range all {
			checkWays(t, of(x.tree), lines)
		}
	}
}

// TestFirstOfAllWaysOfSomePatterns: deeper ones, of which the ways are many.
func TestFirstOfAllWaysOfSomePatterns(t *testing.T) {
	lines := []string{"", "a", "b", "ab", "ba", "aab", "abb", "abab", "aabb", "aaaab", "babab", "ababa"}
	for _, s := range []string{
		`\v(a|b)*`, `\v(a|ab)(b|)`, `\v(a*)*b`, `\v(a*)+`, `\v((a|b)*)*$`, `\v(a{-}b{-})*`, `\v(a=b=){2,4}`, `\v(a=b=){-2,4}`, `\v(a{1,2}){2}`,
		`\v(a{-1,2}){2}`, `\v(()|a)+b`, `\v(()|a){2,}b`, `\v(a|())+b`, `\v(a*){3}`, `\v(|a){,3}`, `\v(|a){-,3}b`, `\v(.*)(b)\2=`, `\v(a)=\1`, `\v(a|b)\1*`,
		`\v(a\zs|b)*`, `\v^(a|^b)*`, `\v(a$|a)*`, `~*`, `~\{-1,}b`, `\v(~|a)*`, `\v((a)|b){,3}`, `\v(((a|b)=){2}){,2}`, `\v(a|b|ab)*b`,
	} {
		checkWays(t, read(t, s, "ab"), lines)
	}
}
