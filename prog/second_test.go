package prog_test

import (
	"math/rand"
	"slices"
	"strings"
	"testing"

	"emendator/api"
	"emendator/pat"
	"emendator/prog"
)

// second compiles a second time, in another way than the program does: how long each code is, and how many rounds it has, is worked out first; then each place is reckoned, none is filled in later.
type second struct{ nodes []api.Node }

func (x second) sum(kids []int, of func(int) int) int {
	all := 0
	for _, kid := range kids {
		all += of(kid)
	}
	return all
}

// size is how many instructions a node's code has; beyond 100000 it is no longer told how many.
func (x second) size(at int) int {
	n := x.nodes[at]
	kids := x.sum(n.Kids, x.size)
	all := 1
	switch {
	case n.Op == api.OpEmpty:
		all = 0
	case n.Op == api.OpCat:
		all = kids
	case n.Op == api.OpAlt:
		all = kids + 2*len(n.Kids) - 2
	case n.Op == api.OpGroup:
		all = kids + 2
	case n.Op == api.OpMany && n.Max < 0:
		all = (n.Min+1)*kids + 4
	case n.Op == api.OpMany:
		all = n.Max*kids + 3*(n.Max-n.Min)
	}
	return min(all, 100000)
}

func (x second) rounds(at int) int {
	n := x.nodes[at]
	kids := x.sum(n.Kids, x.rounds)
	switch {
	case n.Op == api.OpMany && n.Max < 0:
		return (n.Min+1)*kids + 1
	case n.Op == api.OpMany:
		return n.Max*kids + n.Max - n.Min
	}
	return kids
}

// code is that of a node which is laid at that place, its first round being that one.
func (x second) code(at, place, round int) []api.Inst {
	n := x.nodes[at]
	switch n.Op {
	case api.OpEmpty:
		return nil
	case api.OpByte:
		return []api.Inst{{Op: api.InByte, C: n.C}}
	case api.OpSet:
		return []api.Inst{{Op: api.InSet, Set: n.Set}}
	case api.OpBack:
		return []api.Inst{{Op: api.InBack, X: n.N}}
	case api.OpZs, api.OpZe:
		return []api.Inst{{Op: api.InSave, X: 20 + int(n.Op-api.OpZs)}}
	case api.OpBol, api.OpEol, api.OpBow, api.OpEow:
		return []api.Inst{{Op: api.InBol + n.Op - api.OpBol}}
	case api.OpGroup:
		kid := x.code(n.Kids[0], place+1, round)
		return slices.Concat([]api.Inst{{Op: api.InSave, X: 2 * n.N}}, kid, []api.Inst{{Op: api.InSave, X: 2*n.N + 1}})
	case api.OpCat:
		return x.cat(n.Kids, place, round)
	case api.OpAlt:
		return x.alt(n.Kids, place, round, place+x.size(at))
	case api.OpMany:
		return x.many(n, place, round, place+x.size(at))
	}
	return []api.Inst{{Op: api.InAny}}
}

func (x second) cat(kids []int, place, round int) []api.Inst {
	if len(kids) == 0 {
		return nil
	}
	return slices.Concat(x.code(kids[0], place, round), x.cat(kids[1:], place+x.size(kids[0]), round+x.rounds(kids[0])))
}

func (x second) alt(kids []int, place, round, end int) []api.Inst {
	if len(kids) == 1 {
		return x.code(kids[0], place, round)
	}
	other := place + x.size(kids[0]) + 2
	return slices.Concat(
		[]api.Inst{{Op: api.InSplit, X: place + 1, Y: other}},
		x.code(kids[0], place+1, round),
		[]api.Inst{{Op: api.InJump, X: end}},
		x.alt(kids[1:], other, round+x.rounds(kids[0]), end))
}

func (x second) many(n api.Node, place, round, end int) []api.Inst {
	kid := n.Kids[0]
	size, rounds := x.size(kid), x.rounds(kid)
	if n.Min > 0 {
		n.Min--
		if n.Max > 0 {
			n.Max--
		}
		return slices.Concat(x.code(kid, place, round), x.many(n, place+size, round+rounds, end))
	}
	if n.Max == 0 {
		return nil
	}
	split := api.Inst{Op: api.InSplit, X: place + 1, Y: end}
	if n.Lazy {
		split.X, split.Y = split.Y, split.X
	}
	once := slices.Concat(
		[]api.Inst{split, {Op: api.InStart, X: round}},
		x.code(kid, place+2, round+1),
		[]api.Inst{{Op: api.InGone, X: round}})
	if n.Max < 0 {
		return append(once, api.Inst{Op: api.InJump, X: place})
	}
	n.Max--
	return slices.Concat(once, x.many(n, place+size+3, round+rounds+1, end))
}

// compare holds what Compile answers against the second one.
func compare(t *testing.T, p api.Pat) {
	t.Helper()
	c, e := prog.Compile(p, true)
	x := second{p.Nodes}
	if size := x.size(p.Root); size+1 > 2000 {
		if e != api.ErrPatBig || len(c.Code) != 0 || c.Rounds != 0 || c.Fold {
			t.Errorf("%s: error %d, %d instructions, where it is too long", pat.Print(p), e, len(c.Code))
		}
		return
	}
	want := append(x.code(p.Root, 0, 0), api.Inst{Op: api.InMatch})
	if e != api.OK || !slices.Equal(c.Code, want) || c.Rounds != x.rounds(p.Root) {
		t.Errorf("%s: error %d, %d rounds, code\n%s\nwant %d rounds,\n%s", pat.Print(p), e, c.Rounds, text(c.Code), x.rounds(p.Root), text(want))
	}
	if !prog.Sound(c) {
		t.Errorf("%s: not sound:\n%s", pat.Print(p), text(c.Code))
	}
}

// shape is a tree, and whether it may be the kid of an OpMany.
type shape struct {
	tree
	repeats bool
}

// bounds are those that all small trees are made with.
var bounds = [][2]int{{0, -1}, {1, -1}, {0, 1}, {0, 0}, {2, 2}, {1, 3}}

// allShapes are all trees of 1 to n nodes, of few kinds of leaves, at their sizes.
func allShapes(n int) [][]shape {
	all := make([][]shape, n+1)
	all[1] = []shape{{plain('a'), true}, {bare(api.OpAny), true}, {bare(api.OpEmpty), true}, {back(1), true}, {bare(api.OpBol), false}, {bare(api.OpEol), false}, {bare(api.OpZs), false}}
	for size := 2; size <= n; size++ {
		for _, kid := range all[size-1] {
			all[size] = append(all[size], shape{group(1+size%2, kid.tree), true})
			for _, b := range bounds {
				if kid.repeats {
					all[size] = append(all[size], shape{many(b[0], b[1], kid.tree), false}, shape{lazy(b[0], b[1], kid.tree), false})
				}
			}
		}
		for one := 1; one < size-1; one++ {
			for _, a := range all[one] {
				for _, b := range all[size-1-one] {
					all[size] = append(all[size], shape{cat(a.tree, b.tree), false}, shape{alt(a.tree, b.tree), false})
				}
			}
		}
	}
	return all
}

func TestAllSmallTrees(t *testing.T) {
	for _, all := range allShapes(5) {
		for _, x := range all {
			compare(t, of(x.tree))
		}
	}
}

// anyTree is a tree of about that many nodes.
func anyTree(r *rand.Rand, size int) tree {
	if size <= 1 {
		return over(api.Node{Op: []uint8{1, 2, 2, 3, 4, 9, 10, 11, 12, 13, 14, 15}[r.Intn(12)], C: byte(r.Intn(256)), Set: api.Set{r.Uint64(), 1, 2, r.Uint64()}, N: 1 + r.Intn(9)})
	}
	switch r.Intn(4) {
	case 0:
		return group(1+r.Intn(9), anyTree(r, size-1))
	case 1:
		least, most := r.Intn(4), -1
		if r.Intn(2) == 0 {
			most = least + r.Intn(4)
		}
		kid := group(1+r.Intn(9), anyTree(r, size-2))
		switch r.Intn(5) {
		case 0:
			kid = few(2 + r.Intn(4))
		case 1:
			kid = over(api.Node{Op: []uint8{api.OpByte, api.OpAny, api.OpSet, api.OpBack, api.OpEmpty}[r.Intn(5)], N: 1})
		}
		return over(api.Node{Op: api.OpMany, Min: least, Max: most, Lazy: r.Intn(2) == 0}, kid)
	}
	kids := make([]tree, 2+r.Intn(3))
	for i := range kids {
		kids[i] = anyTree(r, size/len(kids))
	}
	if r.Intn(2) == 0 {
		return cat(kids...)
	}
	return alt(kids...)
}

func TestAnyTrees(t *testing.T) {
	r := rand.New(rand.NewSource(4))
	for range 20000 {
		p := of(anyTree(r, r.Intn(60)))
		if !pat.Sound(p) {
			t.Fatalf("a tree that is not sound: %v", p)
		}
		compare(t, p)
	}
}

// TestAnyBounds: all bounds of a byte; of longer kids, whose programs come to the limit, some of them.
func TestAnyBounds(t *testing.T) {
	for least := range 61 {
		for most := -1; most <= 60; most++ {
			if most >= 0 && most < least {
				continue
			}
			compare(t, of(many(least, most, plain('a'))))
			compare(t, of(lazy(least, most, plain('a'))))
			if (least+most)%10 == 0 {
				compare(t, of(lazy(least, most, few(33))))
				compare(t, of(many(least, most, group(1, lazy(0, -1, few(27))))))
			}
		}
	}
}

func TestAnyPatternsThatAreRead(t *testing.T) {
	parts := strings.Fields(`a b . * ~ ~* + = ? ( ) | (a) (a|b) (a|b|c) (|) () (~) (a*)* (a{2}){3} ((a){,3}){,2} < > ^ $ \zs \ze \1 \2 \c \C [a-c] \d {2} {2,3} {-} {-1,} {,60} {60} {-,3} {40,}`)
	r := rand.New(rand.NewSource(7))
	tried := 0
	for range 40000 {
		s := `\v`
		for range r.Intn(12) {
			s += parts[r.Intn(len(parts))]
		}
		p, e, _ := pat.Parse(s, strings.Repeat("b", r.Intn(40)))
		if e == api.OK {
			tried++
			compare(t, p)
		}
	}
	if tried < 1000 {
		t.Errorf("%d patterns, too few to tell", tried)
	}
}

// TestAnyNodes: of nodes that are made at random most are not sound; which ones, pat.Sound says, and no call panics.
func TestAnyNodes(t *testing.T) {
	r := rand.New(rand.NewSource(9))
	sound := 0
	for range 200000 {
		p := api.Pat{Nodes: make([]api.Node, r.Intn(6)), Root: r.Intn(7) - 1, Groups: r.Intn(12) - 1, Case: uint8(r.Intn(4))}
		for i := range p.Nodes {
			n := api.Node{Op: uint8(r.Intn(17)), Min: r.Intn(64) - 1, Max: r.Intn(64) - 1, N: r.Intn(4)}
			for range r.Intn(3) {
				n.Kids = append(n.Kids, r.Intn(len(p.Nodes)+2)-1)
			}
			p.Nodes[i] = n
		}
		if pat.Sound(p) {
			sound++
			compare(t, api.Pat{Nodes: p.Nodes, Root: p.Root, Groups: p.Groups})
		} else if c, e := prog.Compile(p, true); e != api.ErrArg || c.Code != nil || c.Rounds != 0 || c.Fold {
			t.Errorf("%v: error %d, %v", p, e, c)
		}
	}
	if sound < 1000 {
		t.Errorf("%d sound ones, too few to tell", sound)
	}
}
