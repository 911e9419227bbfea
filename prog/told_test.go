package prog_test

import (
	"fmt"
	"slices"
	"strings"
	"testing"

	"emendator/api"
	"emendator/pat"
	"emendator/prog"
)

// tree lays a node and those below it into a pattern, and tells its place.
type tree func(p *api.Pat) int

// of is a pattern of that tree, with nine groups.
func of(t tree) api.Pat {
	p := api.Pat{Groups: 9}
	p.Root = t(&p)
	return p
}

// over is a node with kids; these come first in the list, the node behind them.
func over(n api.Node, kids ...tree) tree {
	return func(p *api.Pat) int {
		n := n
		n.Kids = nil
		for _, kid := range kids {
			n.Kids = append(n.Kids, kid(p))
		}
		p.Nodes = append(p.Nodes, n)
		return len(p.Nodes) - 1
	}
}

func bare(op uint8) tree { return over(api.Node{Op: op}) }

func plain(c byte) tree { return over(api.Node{Op: api.OpByte, C: c}) }

func set(s api.Set) tree { return over(api.Node{Op: api.OpSet, Set: s}) }

func back(n int) tree { return over(api.Node{Op: api.OpBack, N: n}) }

func cat(kids ...tree) tree { return over(api.Node{Op: api.OpCat}, kids...) }

func alt(kids ...tree) tree { return over(api.Node{Op: api.OpAlt}, kids...) }

func group(n int, kid tree) tree { return over(api.Node{Op: api.OpGroup, N: n}, kid) }

func many(least, most int, kid tree) tree {
	return over(api.Node{Op: api.OpMany, Min: least, Max: most}, kid)
}

func lazy(least, most int, kid tree) tree {
	return over(api.Node{Op: api.OpMany, Min: least, Max: most, Lazy: true}, kid)
}

// bytes are several OpByte as one node.
func bytes(s string) tree {
	var all []tree
	for i := range len(s) {
		all = append(all, plain(s[i]))
	}
	return cat(all...)
}

// names of the instructions, at their numbers, as the tests write them.
var names = strings.Fields("- byte any set split jump save back bol eol bow eow start gone match")

// codes are the instructions of a text, a name and its numbers each, with a semicolon between; what is not named is nought. The number of a byte is the byte itself, those of a set are its elements.
func codes(text string) []api.Inst {
	var code []api.Inst
	for _, one := range strings.Split(text, ";") {
		word := strings.Fields(one)
		i := api.Inst{Op: uint8(slices.Index(names, word[0]))}
		switch i.Op {
		case api.InByte:
			i.C = word[1][0]
		case api.InSet:
			fmt.Sscan(strings.Join(word[1:], " "), &i.Set[0], &i.Set[1], &i.Set[2], &i.Set[3])
		default:
			fmt.Sscan(strings.Join(word[1:], " "), &i.X, &i.Y)
		}
		code = append(code, i)
	}
	return code
}

// text is a program's code, to be read.
func text(code []api.Inst) string {
	var all []string
	for at, i := range code {
		name := fmt.Sprint("op ", i.Op)
		if int(i.Op) < len(names) {
			name = names[i.Op]
		}
		all = append(all, fmt.Sprintf("%d: %s c%02x %v x%d y%d", at, name, i.C, i.Set, i.X, i.Y))
	}
	return strings.Join(all, "\n")
}

// compiled is what Compile answers; what it is given stays as it was, and what comes out is sound, or nothing but the error.
func compiled(t *testing.T, p api.Pat, fold bool) (api.Prog, api.Errno) {
	t.Helper()
	before := fmt.Sprint(p)
	c, e := prog.Compile(p, fold)
	if fmt.Sprint(p) != before {
		t.Errorf("changed: %v, was %s", p, before)
	}
	if e != api.OK {
		if len(c.Code) != 0 || c.Rounds != 0 || c.Fold {
			t.Errorf("%v: a program beside error %d", p, e)
		}
	} else if !prog.Sound(c) {
		t.Errorf("%v: not sound:\n%s", p, text(c.Code))
	}
	return c, e
}

// checkCode: the tree's program is this one, whether letters are the same or not.
func checkCode(t *testing.T, what tree, want string, rounds int) {
	t.Helper()
	checkPat(t, of(what), want, rounds)
}

func checkPat(t *testing.T, p api.Pat, want string, rounds int) {
	t.Helper()
	for _, fold := range []bool{false, true} {
		c, e := compiled(t, p, fold)
		if e != api.OK || !slices.Equal(c.Code, codes(want)) || c.Rounds != rounds {
			t.Errorf("%s: error %d, %d rounds, code\n%s\nwant %d rounds,\n%s", pat.Print(p), e, c.Rounds, text(c.Code), rounds, text(codes(want)))
		}
	}
}

// checkText is checkCode of a pattern that is read; ~ stands for xy.
func checkText(t *testing.T, s, want string, rounds int) {
	t.Helper()
	checkPat(t, read(t, s, "xy"), want, rounds)
}

func read(t *testing.T, s, last string) api.Pat {
	t.Helper()
	p, e, at := pat.Parse(s, last)
	if e != api.OK {
		t.Fatalf("Parse(%q): error %d at %d", s, e, at)
	}
	return p
}
