package prog_test

import (
	"fmt"
	"slices"
	"testing"

	"emendator/api"
	"emendator/prog"
)

func TestEachLeaf(t *testing.T) {
	checkCode(t, bare(api.OpEmpty), "match", 0)
	checkCode(t, plain('a'), "byte a; match", 0)
	checkCode(t, plain(0), "byte \x00; match", 0)
	checkCode(t, plain(0xff), "byte \xff; match", 0)
	checkCode(t, bare(api.OpAny), "any; match", 0)
	checkCode(t, set(api.Set{}), "set 0 0 0 0; match", 0)
	checkCode(t, set(api.Set{1, 2, 3, 1 << 63}), "set 1 2 3 9223372036854775808; match", 0)
	checkCode(t, bare(api.OpBol), "bol; match", 0)
	checkCode(t, bare(api.OpEol), "eol; match", 0)
	checkCode(t, bare(api.OpBow), "bow; match", 0)
	checkCode(t, bare(api.OpEow), "eow; match", 0)
	checkCode(t, bare(api.OpZs), "save 20; match", 0)
	checkCode(t, bare(api.OpZe), "save 21; match", 0)
	for n := 1; n <= 9; n++ {
		checkCode(t, back(n), fmt.Sprintf("back %d; match", n), 0)
	}
}

// TestEachByte: also letters are laid as they stand, whatever the case.
func TestEachByte(t *testing.T) {
	for c := range 256 {
		for _, casing := range []uint8{api.CaseAsked, api.CaseIgnore, api.CaseMatch} {
			p := of(plain(byte(c)))
			p.Case = casing
			code, e := compiled(t, p, true)
			if e != api.OK || !slices.Equal(code.Code, []api.Inst{{Op: api.InByte, C: byte(c)}, {Op: api.InMatch}}) {
				t.Errorf("byte %d, case %d: error %d\n%s", c, casing, e, text(code.Code))
			}
		}
	}
}

func TestCat(t *testing.T) {
	checkCode(t, cat(plain('a'), plain('b')), "byte a; byte b; match", 0)
	checkCode(t, cat(bare(api.OpBol), plain('a'), bare(api.OpZs), bare(api.OpAny), bare(api.OpZe), bare(api.OpEol)),
		"bol; byte a; save 20; any; save 21; eol; match", 0)
	checkCode(t, cat(bare(api.OpEmpty), plain('a'), bare(api.OpEmpty)), "byte a; match", 0)
	checkCode(t, cat(bare(api.OpEmpty), bare(api.OpEmpty)), "match", 0)
	checkCode(t, cat(cat(plain('a'), plain('b')), plain('c'), cat(plain('d'), cat(plain('e'), plain('f'))), plain('g')),
		"byte a; byte b; byte c; byte d; byte e; byte f; byte g; match", 0)
}

func TestAlt(t *testing.T) {
	checkCode(t, alt(plain('a'), plain('b')),
		"split 1 3; byte a; jump 4; byte b; match", 0)
	checkCode(t, alt(plain('a'), plain('b'), plain('c')),
		"split 1 3; byte a; jump 7; split 4 6; byte b; jump 7; byte c; match", 0)
	checkCode(t, alt(plain('a'), plain('b'), plain('c'), plain('d')),
		"split 1 3; byte a; jump 10; split 4 6; byte b; jump 10; split 7 9; byte c; jump 10; byte d; match", 0)
	checkCode(t, alt(bytes("ab"), bare(api.OpEmpty), bytes("cde")),
		"split 1 4; byte a; byte b; jump 9; split 5 6; jump 9; byte c; byte d; byte e; match", 0)
	checkCode(t, alt(bare(api.OpEmpty), bare(api.OpEmpty)),
		"split 1 2; jump 2; match", 0)
}

// TestAltIsLeftBehindAllOfIt: not behind the pattern, and not behind the branch alone.
func TestAltIsLeftBehindAllOfIt(t *testing.T) {
	checkCode(t, cat(plain('x'), alt(plain('a'), plain('b'), plain('c')), plain('y')),
		"byte x; split 2 4; byte a; jump 8; split 5 7; byte b; jump 8; byte c; byte y; match", 0)
	checkCode(t, alt(alt(plain('a'), plain('b')), plain('c')),
		"split 1 6; split 2 4; byte a; jump 5; byte b; jump 7; byte c; match", 0)
	checkCode(t, alt(plain('a'), alt(plain('b'), plain('c'))),
		"split 1 3; byte a; jump 7; split 4 6; byte b; jump 7; byte c; match", 0)
	checkCode(t, alt(plain('a'), alt(plain('b'), plain('c')), plain('d')),
		"split 1 3; byte a; jump 10; split 4 9; split 5 7; byte b; jump 8; byte c; jump 10; byte d; match", 0)
}

func TestGroup(t *testing.T) {
	for n := 1; n <= 9; n++ {
		checkCode(t, group(n, plain('a')), fmt.Sprintf("save %d; byte a; save %d; match", 2*n, 2*n+1), 0)
	}
	checkCode(t, group(3, bare(api.OpEmpty)), "save 6; save 7; match", 0)
	checkCode(t, group(1, group(2, group(3, plain('a')))),
		"save 2; save 4; save 6; byte a; save 7; save 5; save 3; match", 0)
	checkCode(t, cat(group(1, plain('a')), group(2, plain('b')), back(1), back(2)),
		"save 2; byte a; save 3; save 4; byte b; save 5; back 1; back 2; match", 0)
	// The same number twice, and out of their order: nothing asks that it is not so.
	checkCode(t, cat(group(5, plain('a')), group(2, plain('b')), group(5, plain('c'))),
		"save 10; byte a; save 11; save 4; byte b; save 5; save 10; byte c; save 11; match", 0)
}

func TestBranchesInGroups(t *testing.T) {
	checkCode(t, group(1, alt(plain('a'), plain('b'), plain('c'))),
		"save 2; split 2 4; byte a; jump 8; split 5 7; byte b; jump 8; byte c; save 3; match", 0)
	checkCode(t, alt(group(1, alt(plain('a'), plain('b'))), group(2, plain('c'))),
		"split 1 8; save 2; split 3 5; byte a; jump 6; byte b; save 3; jump 11; save 4; byte c; save 5; match", 0)
}

func TestNoTimes(t *testing.T) {
	checkCode(t, many(0, 0, plain('a')), "match", 0)
	checkCode(t, lazy(0, 0, group(1, plain('a'))), "match", 0)
	checkCode(t, cat(plain('a'), many(0, 0, group(1, many(0, -1, plain('b')))), many(0, -1, plain('c'))),
		"byte a; split 2 6; start 0; byte c; gone 0; jump 1; match", 1)
}

func TestJustSoManyTimes(t *testing.T) {
	for _, times := range []func(int, int, tree) tree{many, lazy} {
		checkCode(t, times(1, 1, plain('a')), "byte a; match", 0)
		checkCode(t, times(3, 3, plain('a')), "byte a; byte a; byte a; match", 0)
		checkCode(t, times(2, 2, group(4, bare(api.OpAny))), "save 8; any; save 9; save 8; any; save 9; match", 0)
		checkCode(t, times(2, 2, group(1, alt(plain('a'), plain('b')))),
			"save 2; split 2 4; byte a; jump 5; byte b; save 3; save 2; split 8 10; byte a; jump 11; byte b; save 3; match", 0)
		checkCode(t, times(2, 2, bytes("ab")), "byte a; byte b; byte a; byte b; match", 0)
		checkCode(t, times(60, 60, bare(api.OpEmpty)), "match", 0)
	}
}

func TestLoop(t *testing.T) {
	checkCode(t, many(0, -1, plain('a')), "split 1 5; start 0; byte a; gone 0; jump 0; match", 1)
	checkCode(t, many(2, -1, plain('a')), "byte a; byte a; split 3 7; start 0; byte a; gone 0; jump 2; match", 1)
	checkCode(t, many(0, -1, bare(api.OpEmpty)), "split 1 4; start 0; gone 0; jump 0; match", 1)
	checkCode(t, many(1, -1, bare(api.OpEmpty)), "split 1 4; start 0; gone 0; jump 0; match", 1)
	checkCode(t, many(0, -1, bytes("xy")), "split 1 6; start 0; byte x; byte y; gone 0; jump 0; match", 1)
	checkCode(t, many(1, -1, group(1, plain('a'))),
		"save 2; byte a; save 3; split 4 10; start 0; save 2; byte a; save 3; gone 0; jump 3; match", 1)
	checkCode(t, cat(plain('x'), many(0, -1, back(2)), plain('y')),
		"byte x; split 2 6; start 0; back 2; gone 0; jump 1; byte y; match", 1)
}

func TestLazyLoop(t *testing.T) {
	checkCode(t, lazy(0, -1, plain('a')), "split 5 1; start 0; byte a; gone 0; jump 0; match", 1)
	checkCode(t, lazy(2, -1, plain('a')), "byte a; byte a; split 7 3; start 0; byte a; gone 0; jump 2; match", 1)
	checkCode(t, lazy(0, -1, bare(api.OpEmpty)), "split 4 1; start 0; gone 0; jump 0; match", 1)
}

// TestMostBelowNought: any of them means any number.
func TestMostBelowNought(t *testing.T) {
	for _, most := range []int{-1, -2, -60, -61, -1 << 63} {
		checkCode(t, many(1, most, plain('a')), "byte a; split 2 6; start 0; byte a; gone 0; jump 1; match", 1)
	}
}

func TestTries(t *testing.T) {
	checkCode(t, many(0, 1, plain('a')), "split 1 4; start 0; byte a; gone 0; match", 1)
	checkCode(t, many(0, 3, plain('a')),
		"split 1 12; start 0; byte a; gone 0; split 5 12; start 1; byte a; gone 1; split 9 12; start 2; byte a; gone 2; match", 3)
	checkCode(t, many(2, 4, plain('a')),
		"byte a; byte a; split 3 10; start 0; byte a; gone 0; split 7 10; start 1; byte a; gone 1; match", 2)
	checkCode(t, many(0, 2, bare(api.OpEmpty)), "split 1 6; start 0; gone 0; split 4 6; start 1; gone 1; match", 2)
	checkCode(t, many(1, 2, bytes("xy")), "byte x; byte y; split 3 7; start 0; byte x; byte y; gone 0; match", 1)
	checkCode(t, cat(many(0, 1, plain('a')), many(0, 1, plain('b')), plain('c')),
		"split 1 4; start 0; byte a; gone 0; split 5 8; start 1; byte b; gone 1; byte c; match", 2)
}

func TestLazyTries(t *testing.T) {
	checkCode(t, lazy(0, 1, plain('a')), "split 4 1; start 0; byte a; gone 0; match", 1)
	checkCode(t, lazy(1, 3, plain('a')),
		"byte a; split 9 2; start 0; byte a; gone 0; split 9 6; start 1; byte a; gone 1; match", 2)
}

// TestRoundsWithinRounds: a round is numbered where it begins; each copy has rounds of its own.
func TestRoundsWithinRounds(t *testing.T) {
	checkCode(t, many(0, -1, group(1, many(0, -1, plain('a')))),
		"split 1 11; start 0; save 2; split 4 8; start 1; byte a; gone 1; jump 3; save 3; gone 0; jump 0; match", 2)
	checkCode(t, many(2, 2, group(1, many(0, 1, plain('a')))),
		"save 2; split 2 5; start 0; byte a; gone 0; save 3; save 2; split 8 11; start 1; byte a; gone 1; save 3; match", 2)
	checkCode(t, many(1, 2, group(1, lazy(0, 1, plain('a')))),
		"save 2; split 5 2; start 0; byte a; gone 0; save 3; split 7 15; start 1; save 2; split 13 10; start 2; byte a; gone 2; save 3; gone 1; match", 3)
	checkCode(t, lazy(0, 1, group(1, many(0, 2, bare(api.OpEmpty)))),
		"split 11 1; start 0; save 2; split 4 9; start 1; gone 1; split 7 9; start 2; gone 2; save 3; gone 0; match", 3)
	checkCode(t, cat(many(0, -1, group(1, many(0, -1, plain('a')))), many(0, -1, plain('b'))),
		"split 1 11; start 0; save 2; split 4 8; start 1; byte a; gone 1; jump 3; save 3; gone 0; jump 0; split 12 16; start 2; byte b; gone 2; jump 11; match", 3)
}

func TestSixtyTimes(t *testing.T) {
	c, e := compiled(t, of(many(60, 60, plain('a'))), false)
	if e != api.OK || len(c.Code) != 61 || c.Rounds != 0 || c.Code[59] != (api.Inst{Op: api.InByte, C: 'a'}) {
		t.Errorf("60 to 60: error %d, %d rounds\n%s", e, c.Rounds, text(c.Code))
	}
	c, e = compiled(t, of(many(60, -1, plain('a'))), false)
	if e != api.OK || len(c.Code) != 66 || c.Rounds != 1 || c.Code[60] != (api.Inst{Op: api.InSplit, X: 61, Y: 65}) {
		t.Errorf("60 or more: error %d, %d rounds\n%s", e, c.Rounds, text(c.Code))
	}
	c, e = compiled(t, of(many(0, 60, plain('a'))), false)
	if e != api.OK || len(c.Code) != 241 || c.Rounds != 60 {
		t.Fatalf("0 to 60: error %d, %d rounds\n%s", e, c.Rounds, text(c.Code))
	}
	for i := range 60 {
		at := 4 * i
		want := []api.Inst{{Op: api.InSplit, X: at + 1, Y: 240}, {Op: api.InStart, X: i}, {Op: api.InByte, C: 'a'}, {Op: api.InGone, X: i}}
		if !slices.Equal(c.Code[at:at+4], want) {
			t.Errorf("0 to 60, the try %d:\n%s", i, text(c.Code[at:at+4]))
		}
	}
}

// TestPatternsThatAreRead: as they are written, with ~ for xy.
func TestPatternsThatAreRead(t *testing.T) {
	checkText(t, "", "match", 0)
	checkText(t, "a*", "split 1 5; start 0; byte a; gone 0; jump 0; match", 1)
	checkText(t, `a\{-}`, "split 5 1; start 0; byte a; gone 0; jump 0; match", 1)
	checkText(t, `^a\|b$`, "split 1 4; bol; byte a; jump 6; byte b; eol; match", 0)
	checkText(t, `\<a\zsb\zec\>`, "bow; byte a; save 20; byte b; save 21; byte c; eow; match", 0)
	checkText(t, `\(.\)\1`, "save 2; any; save 3; back 1; match", 0)
	checkText(t, `\v(a|b|)=`, "split 1 11; start 0; save 2; split 4 6; byte a; jump 9; split 7 9; byte b; jump 9; save 3; gone 0; match", 1)
	checkText(t, `~\{2}`, "byte x; byte y; byte x; byte y; match", 0)
	checkText(t, `~\{,1}z`, "split 1 5; start 0; byte x; byte y; gone 0; byte z; match", 1)
	checkText(t, `[A-B]\n`, "set 0 6 0 0; set 0 0 0 0; match", 0)
	checkText(t, `\v(a){2,}`, "save 2; byte a; save 3; save 2; byte a; save 3; split 7 13; start 0; save 2; byte a; save 3; gone 0; jump 6; match", 1)
}

// TestFieldsThatAreNotNamed: a node's other fields mean nothing, and come into no instruction.
func TestFieldsThatAreNotNamed(t *testing.T) {
	noise := api.Node{C: 'z', Set: api.Set{9, 9, 9, 9}, Min: 7, Max: 8, Lazy: true, N: 5}
	with := func(op uint8, kids ...tree) tree {
		n := noise
		n.Op = op
		return over(n, kids...)
	}
	a := plain('a')
	for _, x := range []struct {
		is   tree
		want string
	}{
		{with(api.OpEmpty), "match"},
		{with(api.OpByte), "byte z; match"},
		{with(api.OpAny), "any; match"},
		{with(api.OpSet), "set 9 9 9 9; match"},
		{with(api.OpCat, a, a), "byte a; byte a; match"},
		{with(api.OpAlt, a, a), "split 1 3; byte a; jump 4; byte a; match"},
		{with(api.OpGroup, a), "save 10; byte a; save 11; match"},
		{with(api.OpBack), "back 5; match"},
		{with(api.OpBol), "bol; match"},
		{with(api.OpEol), "eol; match"},
		{with(api.OpBow), "bow; match"},
		{with(api.OpEow), "eow; match"},
		{with(api.OpZs), "save 20; match"},
		{with(api.OpZe), "save 21; match"},
	} {
		checkCode(t, x.is, x.want, 0)
	}
	checkCode(t, with(api.OpMany, a),
		"byte a; byte a; byte a; byte a; byte a; byte a; byte a; split 11 8; start 0; byte a; gone 0; match", 1)
}

// TestFold: as it is asked, unless the pattern says it; the code is the same.
func TestFold(t *testing.T) {
	for casing := range 256 {
		for _, fold := range []bool{false, true} {
			p := of(many(0, -1, plain('Q')))
			p.Case = uint8(casing)
			c, e := compiled(t, p, fold)
			want := casing == 1 || casing == 0 && fold
			if e != api.OK || c.Fold != want || !slices.Equal(c.Code, codes("split 1 5; start 0; byte Q; gone 0; jump 0; match")) {
				t.Errorf("case %d, asked %v: error %d, %v\n%s", casing, fold, e, c.Fold, text(c.Code))
			}
		}
	}
	for s, want := range map[string][2]bool{"a": {false, true}, `a\c`: {true, true}, `\Ca`: {false, false}, `\ca\C`: {false, false}, `\C\ca`: {true, true}} {
		for i, fold := range []bool{false, true} {
			if c, e := compiled(t, read(t, s, ""), fold); e != api.OK || c.Fold != want[i] {
				t.Errorf("%s, asked %v: error %d, %v", s, fold, e, c.Fold)
			}
		}
	}
}

// TestRootAnywhere: nodes stand in any order, and those that are not asked for are nothing.
func TestRootAnywhere(t *testing.T) {
	p := api.Pat{Groups: 1, Root: 2, Nodes: []api.Node{
		{Op: api.OpByte, C: 'a'},
		{Op: 99, Kids: []int{7}},
		{Op: api.OpCat, Kids: []int{4, 0, 3}},
		{Op: api.OpEol},
		{Op: api.OpMany, Max: 1, Kids: []int{5}},
		{Op: api.OpAny},
	}}
	checkPat(t, p, "split 1 4; start 0; any; gone 0; byte a; eol; match", 1)
	p.Root = 4
	checkPat(t, p, "split 1 4; start 0; any; gone 0; match", 1)
}

func TestPatternsThatAreNotSound(t *testing.T) {
	a := api.Node{Op: api.OpByte, C: 'a'}
	one := func(nodes ...api.Node) api.Pat { return api.Pat{Nodes: nodes, Groups: 1} }
	for _, p := range []api.Pat{
		{},
		{Nodes: []api.Node{}},
		{Nodes: []api.Node{a}, Root: 1},
		{Nodes: []api.Node{a}, Root: -1},
		{Nodes: []api.Node{a}, Groups: 10},
		{Nodes: []api.Node{a}, Groups: -1},
		one(api.Node{}),
		one(api.Node{Op: 16}),
		one(api.Node{Op: 255}),
		one(api.Node{Op: api.OpByte, Kids: []int{1}}, a),
		one(api.Node{Op: api.OpCat}),
		one(api.Node{Op: api.OpCat, Kids: []int{1}}, a),
		one(api.Node{Op: api.OpCat, Kids: []int{1, 1}}, a),
		one(api.Node{Op: api.OpCat, Kids: []int{1, 2}}, a),
		one(api.Node{Op: api.OpAlt}),
		one(api.Node{Op: api.OpAlt, Kids: []int{1}}, a),
		one(api.Node{Op: api.OpAlt, Kids: []int{1, 0}}, a),
		one(api.Node{Op: api.OpAlt, Kids: []int{1, -1}}, a),
		one(api.Node{Op: api.OpGroup, N: 1}),
		one(api.Node{Op: api.OpGroup, N: 1, Kids: []int{0}}),
		one(api.Node{Op: api.OpGroup, N: 0, Kids: []int{1}}, a),
		one(api.Node{Op: api.OpGroup, N: 2, Kids: []int{1}}, a),
		one(api.Node{Op: api.OpBack, N: 0}),
		one(api.Node{Op: api.OpBack, N: 2}),
		one(api.Node{Op: api.OpBack, N: -1}),
		one(api.Node{Op: api.OpMany, Max: 1}),
		one(api.Node{Op: api.OpMany, Max: 61, Kids: []int{1}}, a),
		one(api.Node{Op: api.OpMany, Min: 61, Max: -1, Kids: []int{1}}, a),
		one(api.Node{Op: api.OpMany, Min: -1, Max: -1, Kids: []int{1}}, a),
		one(api.Node{Op: api.OpMany, Min: 3, Max: 2, Kids: []int{1}}, a),
		one(api.Node{Op: api.OpMany, Max: -1, Kids: []int{1}}, api.Node{Op: api.OpBol}),
		one(api.Node{Op: api.OpMany, Max: -1, Kids: []int{1}}, api.Node{Op: api.OpMany, Max: 1, Kids: []int{2}}, a),
		one(api.Node{Op: api.OpMany, Max: -1, Kids: []int{1}}, api.Node{Op: api.OpCat, Kids: []int{2, 3}}, a, api.Node{Op: api.OpAny}),
	} {
		for _, fold := range []bool{false, true} {
			if _, e := compiled(t, p, fold); e != api.ErrArg {
				t.Errorf("%v: error %d", p, e)
			}
		}
	}
}

// TestMemoryOfItsOwn: what comes out shares nothing with what comes out of another call.
func TestMemoryOfItsOwn(t *testing.T) {
	p := of(many(0, -1, plain('a')))
	one, _ := prog.Compile(p, false)
	two, _ := prog.Compile(p, false)
	for i := range one.Code {
		one.Code[i] = api.Inst{Op: 77}
	}
	_ = append(one.Code, api.Inst{Op: 77})
	if want := codes("split 1 5; start 0; byte a; gone 0; jump 0; match"); !slices.Equal(two.Code, want) {
		t.Errorf("another program is changed:\n%s", text(two.Code))
	}
	checkPat(t, p, "split 1 5; start 0; byte a; gone 0; jump 0; match", 1)
}

// TestWhatLiesBehindAList: neither more nodes nor more kids are there than the lists say, and what is there stays.
func TestWhatLiesBehindAList(t *testing.T) {
	kids := []int{1, 2, 3}
	nodes := []api.Node{{Op: api.OpCat, Kids: kids[:2]}, {Op: api.OpByte, C: 'a'}, {Op: api.OpByte, C: 'b'}, {Op: api.OpByte, C: 'c'}}
	checkPat(t, api.Pat{Nodes: nodes[:3]}, "byte a; byte b; match", 0)
	if _, e := compiled(t, api.Pat{Nodes: nodes[:2]}, false); e != api.ErrArg {
		t.Errorf("a kid behind the list of nodes: error %d", e)
	}
	if !slices.Equal(kids, []int{1, 2, 3}) || nodes[3].C != 'c' {
		t.Errorf("written behind a list: %v, %v", kids, nodes)
	}
}
