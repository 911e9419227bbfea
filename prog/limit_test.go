package prog_test

import (
	"runtime/debug"
	"strings"
	"testing"

	"emendator/api"
	"emendator/prog"
)

// checkSize: the pattern's program has that many instructions; 0: it is too long.
func checkSize(t *testing.T, name string, p api.Pat, want int) {
	t.Helper()
	c, e := compiled(t, p, true)
	switch {
	case want == 0 && e != api.ErrPatBig:
		t.Errorf("%s: error %d, %d instructions, where it is too long", name, e, len(c.Code))
	case want > 0 && (e != api.OK || len(c.Code) != want):
		t.Errorf("%s: error %d, %d instructions, want %d", name, e, len(c.Code), want)
	}
}

// TestOneBoundUpToTheLimit: what one bound makes, with ~ for so many bytes.
func TestOneBoundUpToTheLimit(t *testing.T) {
	for _, x := range []struct {
		s    string
		last int
		want int
	}{
		{`~\{56,}`, 35, 2000}, // 56 times 35, and a loop of 35 and 4
		{`a~\{56,}`, 35, 0},
		{`~\{-56,}`, 35, 2000},
		{`~\{-56,}a`, 35, 0},
		{`~\{49,58}`, 34, 2000}, // 58 times 34, and 9 tries of 3 more
		{`a~\{49,58}`, 34, 0},
		{`~\{-49,58}`, 34, 2000},
		{`~\{48,58}`, 34, 0},
		{`~\{50}`, 39, 1951},
		{`~\{50}`, 40, 0}, // just one too many
		{`~\{-50}`, 40, 0},
		{`\(~\)\{37}`, 52, 1999}, // 37 times 54
		{`\(~\)\{37}.`, 52, 2000},
		{`\(~\)\{37}..`, 52, 0},
		{`\(~\)*`, 300, 307},
	} {
		checkSize(t, x.s, read(t, x.s, strings.Repeat("b", x.last)), x.want)
	}
}

func TestBoundsWithinBounds(t *testing.T) {
	for s, want := range map[string]int{
		`\v((a{10}){5}){32}b{15}`:                                  2000, // 32 times 62, and 15
		`\v((a{10}){5}){32}b{16}`:                                  0,
		`\v((a{10}){5}){32}b{10}b*`:                                2000,
		`\v((a{10}){5}){32}b{11}b*`:                                0,
		`\v((a{10}){5}){32}b{12}b=`:                                0,
		`\v((a{10}){5}){32}b{11}b=`:                                2000,
		`\v(((((a{60}){60}){60}){60}){60}){60}`:                    0,
		`\v(((((a{,60}){,60}){,60}){,60}){,60})`:                   0,
		`\v(((((a{-60,}){60,}){-60,}){60,})*)*`:                    0,
		`\v(((((((((){60}){60}){60}){60}){60}){60}){60}){60}){60}`: 0,
		`\v((a*)*)*`:      1 + 4 + 2 + 4 + 2 + 4 + 1,
		`\v((a{,3}){,2})`: 2 + 2*(3+2+3*4) + 1,
	} {
		checkSize(t, s, read(t, s, ""), want)
	}
}

// few is a tree of that many bytes.
func few(n int) tree { return bytes(strings.Repeat("a", n)) }

func TestPiecesUpToTheLimit(t *testing.T) {
	checkSize(t, "1999 bytes", of(few(1999)), 2000)
	checkSize(t, "2000 bytes", of(few(2000)), 0)
	checkSize(t, "2001 bytes", of(few(2001)), 0)
	checkSize(t, "a group of 1997", of(group(9, few(1997))), 2000)
	checkSize(t, "a group of 1998", of(group(9, few(1998))), 0)
	checkSize(t, "a loop of 1995", of(many(0, -1, few(1995))), 2000)
	checkSize(t, "a loop of 1996", of(many(0, -1, few(1996))), 0)
	checkSize(t, "a try of 1996", of(many(0, 1, few(1996))), 2000)
	checkSize(t, "a try of 1997", of(lazy(0, 1, few(1997))), 0)
	checkSize(t, "two branches of 1997", of(alt(few(1000), few(997))), 2000)
	checkSize(t, "two branches of 1998", of(alt(few(1000), few(998))), 0)
}

func TestBranchesUpToTheLimit(t *testing.T) {
	branches := func(n int, last tree) tree {
		var all []tree
		for range n - 1 {
			all = append(all, plain('a'))
		}
		return alt(append(all, last)...)
	}
	checkSize(t, "667 branches", of(branches(667, plain('a'))), 2000)
	checkSize(t, "667 branches, the last one longer", of(branches(667, few(2))), 0)
	checkSize(t, "668 branches", of(branches(668, plain('a'))), 0)
	checkSize(t, "668 branches, the last one of nothing", of(branches(668, bare(api.OpEmpty))), 0)
}

// TestRoundsUpToTheLimit: the most rounds that there may be are a third of the instructions.
func TestRoundsUpToTheLimit(t *testing.T) {
	var all []tree
	for range 666 {
		all = append(all, many(0, 1, bare(api.OpEmpty)))
	}
	c, e := compiled(t, of(cat(append(all, plain('a'))...)), false)
	if e != api.OK || len(c.Code) != 2000 || c.Rounds != 666 {
		t.Errorf("666 rounds: error %d, %d instructions, %d rounds", e, len(c.Code), c.Rounds)
	}
	checkSize(t, "667 rounds", of(cat(append(all, many(0, 1, bare(api.OpEmpty)))...)), 0)
}

// TestTooLongAndNotLaid: what comes no time has no code, however long it would be.
func TestTooLongAndNotLaid(t *testing.T) {
	checkCode(t, cat(plain('a'), many(0, 0, group(1, few(5000))), plain('b')), "byte a; byte b; match", 0)
	checkCode(t, lazy(0, 0, few(5000)), "match", 0)
}

// TestNotSoundAndTooLong: that it is not sound is named first.
func TestNotSoundAndTooLong(t *testing.T) {
	for _, p := range []api.Pat{of(cat(few(5000), bare(77))), of(cat(bare(77), few(5000)))} {
		if _, e := compiled(t, p, true); e != api.ErrArg {
			t.Errorf("error %d", e)
		}
	}
}

// nested is a pattern of that many levels: each one is laid around the one below by around, which is told where that stands.
func nested(levels int, around func(p *api.Pat, below int) int) api.Pat {
	p := api.Pat{Groups: 9, Nodes: []api.Node{{Op: api.OpByte, C: 'a'}}}
	for range levels {
		p.Root = around(&p, p.Root)
	}
	return p
}

func add(p *api.Pat, n api.Node) int {
	p.Nodes = append(p.Nodes, n)
	return len(p.Nodes) - 1
}

// checkDeep: as checkSize, without looking at all of the nodes.
func checkDeep(t *testing.T, name string, p api.Pat, want api.Errno, size int) {
	t.Helper()
	c, e := prog.Compile(p, false)
	if e != want || len(c.Code) != size {
		t.Errorf("%s: error %d, %d instructions", name, e, len(c.Code))
	}
}

// TestDeepPatterns: far more levels than a pattern that is read may have; those that have no instruction of their own are no matter. The stack is held small, so that a call within a call for each level would not end well.
func TestDeepPatterns(t *testing.T) {
	defer debug.SetMaxStack(debug.SetMaxStack(1 << 23))
	const levels = 200000
	for side, name := range []string{"at the first", "at the last"} {
		for _, op := range []uint8{api.OpCat, api.OpAlt} {
			p := nested(levels, func(p *api.Pat, below int) int {
				kids := []int{below, below}
				kids[1-side] = add(p, api.Node{Op: api.OpEmpty})
				return add(p, api.Node{Op: op, Kids: kids})
			})
			if op == api.OpCat {
				checkDeep(t, "OpCat "+name, p, api.OK, 2)
			} else {
				checkDeep(t, "OpAlt "+name, p, api.ErrPatBig, 0)
			}
		}
	}
	checkDeep(t, "OpGroup", nested(levels, func(p *api.Pat, below int) int {
		return add(p, api.Node{Op: api.OpGroup, N: 9, Kids: []int{below}})
	}), api.ErrPatBig, 0)
	for name, n := range map[string]api.Node{
		"once": {Min: 1, Max: 1}, "a loop": {Max: -1}, "a try": {Max: 1}, "often": {Min: 60, Max: 60}, "often and a loop": {Min: 60, Max: -1},
	} {
		checkDeep(t, "OpMany, "+name, nested(levels, func(p *api.Pat, below int) int {
			g := add(p, api.Node{Op: api.OpGroup, N: 9, Kids: []int{below}})
			return add(p, api.Node{Op: api.OpMany, Min: n.Min, Max: n.Max, Kids: []int{g}})
		}), api.ErrPatBig, 0)
	}
}

// TestLevelsUpToTheLimit: groups in groups, as many as there is room for.
func TestLevelsUpToTheLimit(t *testing.T) {
	groups := func(levels int) api.Pat {
		return nested(levels, func(p *api.Pat, below int) int {
			return add(p, api.Node{Op: api.OpGroup, N: 1, Kids: []int{below}})
		})
	}
	checkDeep(t, "999 groups", groups(999), api.OK, 2000)
	checkDeep(t, "1000 groups", groups(1000), api.ErrPatBig, 0)
}

// TestWidePatterns: very many kids, of nothing and of bytes.
func TestWidePatterns(t *testing.T) {
	for op, want := range map[uint8]int{api.OpEmpty: 1, api.OpByte: 0} {
		p := api.Pat{Nodes: []api.Node{{Op: api.OpCat}}}
		for range 1000000 {
			p.Nodes[0].Kids = append(p.Nodes[0].Kids, add(&p, api.Node{Op: op}))
		}
		e := api.OK
		if want == 0 {
			e = api.ErrPatBig
		}
		checkDeep(t, "wide", p, e, want)
	}
}
