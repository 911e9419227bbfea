package pat_test

import (
	"fmt"
	"math"
	"strings"
	"testing"

	"emendator/api"
	"emendator/pat"
)

// leaf is a node of that Op without kids.
func leaf(op uint8) api.Node { return api.Node{Op: op} }

func over(op uint8, kids ...int) api.Node { return api.Node{Op: op, Kids: kids} }

func group(n int, kids ...int) api.Node { return api.Node{Op: api.OpGroup, N: n, Kids: kids} }

func back(n int) api.Node { return api.Node{Op: api.OpBack, N: n} }

func many(least, most int, kids ...int) api.Node {
	return api.Node{Op: api.OpMany, Min: least, Max: most, Kids: kids}
}

// of is a pattern of these nodes, the first one being all of it, with that many groups.
func of(groups int, nodes ...api.Node) api.Pat { return api.Pat{Nodes: nodes, Groups: groups} }

// sound tries what Sound says, that Print tells just the same, and that neither changes what it is given.
func sound(t *testing.T, p api.Pat) bool {
	t.Helper()
	before := fmt.Sprint(p)
	is := pat.Sound(p)
	if text := pat.Print(p); (text != "") != is {
		t.Errorf("%v: Sound %v, but Print %q", p, is, text)
	}
	if fmt.Sprint(p) != before {
		t.Errorf("changed: %v, was %s", p, before)
	}
	return is
}

func checkSound(t *testing.T, want bool, all ...api.Pat) {
	t.Helper()
	for _, p := range all {
		if sound(t, p) != want {
			t.Errorf("Sound(%v): %v", p, !want)
		}
	}
}

func TestRootIsAPlace(t *testing.T) {
	checkSound(t, false, api.Pat{}, api.Pat{Nodes: []api.Node{}})
	for _, root := range []int{math.MinInt, -1, 2, 3, math.MaxInt} {
		checkSound(t, false, api.Pat{Nodes: []api.Node{leaf(api.OpAny), leaf(api.OpAny)}, Root: root})
	}
	for root := range 2 {
		checkSound(t, true, api.Pat{Nodes: []api.Node{leaf(api.OpAny), leaf(api.OpAny)}, Root: root})
	}
}

func TestRootAnywhere(t *testing.T) {
	nodes := []api.Node{leaf(api.OpAny), over(api.OpCat, 3, 0), leaf(api.OpEol), many(0, -1, 4), back(1)}
	p := api.Pat{Nodes: nodes, Root: 1, Groups: 1}
	if is := pat.Print(p); is != `1a:({0,-1}\1.)` {
		t.Errorf("Print: %s", is)
	}
}

func TestKidsArePlaces(t *testing.T) {
	any := leaf(api.OpAny)
	for _, at := range []int{math.MinInt, -2, -1, 3, 4, math.MaxInt} {
		checkSound(t, false,
			of(0, over(api.OpCat, 1, at), any, any), of(0, over(api.OpCat, at, 1), any, any),
			of(0, over(api.OpAlt, 1, at), any, any), of(0, over(api.OpAlt, 1, 2, at), any, any),
			of(0, many(0, 1, at), any, any), of(1, group(1, at), any, any),
			of(0, many(0, 1, 1), over(api.OpCat, 2, at), leaf(api.OpByte)),
			of(0, over(api.OpCat, 1, 2), any, over(api.OpAlt, at, at)))
	}
	checkSound(t, true, of(0, over(api.OpCat, 1, 2), any, any), of(0, over(api.OpAlt, 2, 1), any, any))
}

func TestNodesAreAskedForOnce(t *testing.T) {
	any := leaf(api.OpAny)
	checkSound(t, false,
		of(0, over(api.OpCat, 1, 1), any),
		of(0, over(api.OpAlt, 1, 2, 1), any, any),
		of(0, over(api.OpCat, 1, 2), over(api.OpCat, 3, 4), over(api.OpCat, 4, 5), any, any, any),
		of(1, over(api.OpAlt, 1, 2), group(1, 3), group(1, 3), any),
		of(0, over(api.OpCat, 1, 2), many(0, 1, 3), many(0, 1, 3), any),
		// In a ring.
		of(1, group(1, 0)),
		of(0, over(api.OpCat, 0, 0)),
		of(0, over(api.OpCat, 1, 0), any),
		of(2, group(1, 1), group(2, 0)),
		of(2, over(api.OpAlt, 1, 2), any, group(2, 3), over(api.OpCat, 4, 0), any),
		of(1, many(0, -1, 1), group(1, 0)),
		of(1, over(api.OpCat, 1, 2), any, group(1, 2)))
}

// TestNodesNotAskedFor: what does not stand in the tree says nothing of it.
func TestNodesNotAskedFor(t *testing.T) {
	any := leaf(api.OpAny)
	checkSound(t, true,
		of(0, any, any),
		of(0, any, leaf(0)),
		of(0, any, over(api.OpCat, 7)),
		of(0, any, over(api.OpCat, 1, 0)),
		of(0, any, group(1, 1)),
		of(0, any, many(99, -1, 0)))
}

func TestHowManyKids(t *testing.T) {
	kids := []int{1, 2, 3}
	three := []api.Node{leaf(api.OpByte), leaf(api.OpByte), leaf(api.OpByte)}
	for op := range 256 {
		least, most := 0, 0
		switch uint8(op) {
		case api.OpCat, api.OpAlt:
			least, most = 2, 3
		case api.OpMany, api.OpGroup:
			least, most = 1, 1
		}
		for n := range 4 {
			p := of(1, append([]api.Node{{Op: uint8(op), N: 1, Kids: kids[:n]}}, three...)...)
			checkSound(t, op >= 1 && op <= 15 && n >= least && n <= most, p)
		}
	}
}

// TestListsOfNothing: nil and empty are the same.
func TestListsOfNothing(t *testing.T) {
	checkSound(t, true, of(0, api.Node{Op: api.OpAny, Kids: []int{}}))
	checkSound(t, false, of(0, api.Node{Op: api.OpCat, Kids: []int{}}))
}

func TestNoOtherOps(t *testing.T) {
	for op := range 256 {
		if op >= 1 && op <= 15 {
			continue
		}
		checkSound(t, false, of(9, leaf(uint8(op))),
			of(9, over(api.OpCat, 1, 2), leaf(api.OpAny), leaf(uint8(op))),
			of(9, group(1, 1), leaf(uint8(op))),
			of(9, many(0, 1, 1), leaf(uint8(op))))
	}
}

func TestNumbersOfGroups(t *testing.T) {
	any := leaf(api.OpAny)
	for _, groups := range []int{math.MinInt, -1, 0, 1, 2, 8, 9, 10, 11, math.MaxInt} {
		right := groups >= 0 && groups <= 9
		checkSound(t, right, of(groups, any))
		for _, n := range []int{math.MinInt, -1, 0, 1, 2, 3, 8, 9, 10, math.MaxInt} {
			fits := right && n >= 1 && n <= groups
			checkSound(t, fits, of(groups, group(n, 1), any), of(groups, back(n)),
				of(groups, over(api.OpCat, 1, 2), any, back(n)))
		}
	}
	checkSound(t, true, of(3, over(api.OpCat, 1, 2, 3), back(3), group(2, 4), group(2, 5), any, any))
}

func TestBoundsOfMany(t *testing.T) {
	all := []int{math.MinInt, -61, -2, -1, 0, 1, 2, 59, 60, 61, 62, math.MaxInt}
	for _, least := range all {
		for _, most := range all {
			fits := least >= 0 && least <= 60 && (most < 0 || most >= least && most <= 60)
			checkSound(t, fits, of(0, many(least, most, 1), leaf(api.OpAny)))
		}
	}
	// Of no other Op.
	checkSound(t, true, of(0, api.Node{Op: api.OpAny, Min: -5, Max: 999, N: 77, C: 1}),
		of(0, api.Node{Op: api.OpByte, Min: 61, Max: 60, Lazy: true, N: -1}))
}

func TestKidOfMany(t *testing.T) {
	any, a := leaf(api.OpAny), leaf(api.OpByte)
	for op := uint8(1); op <= 15; op++ {
		kid := api.Node{Op: op, N: 1, Max: 1}
		switch op {
		case api.OpCat, api.OpAlt:
			kid.Kids = []int{2, 3}
		case api.OpMany, api.OpGroup:
			kid.Kids = []int{2}
		}
		right := strings.IndexByte(string([]byte{api.OpByte, api.OpAny, api.OpSet, api.OpGroup, api.OpBack, api.OpEmpty, api.OpCat}), op) >= 0
		checkSound(t, right, of(1, many(0, -1, 1), kid, a, a))
		checkSound(t, right && op != api.OpCat, of(1, many(0, -1, 1), kid, any, a))
		checkSound(t, right && op != api.OpCat, of(1, many(0, -1, 1), kid, a, any)) // the second kid is asked for by OpCat alone
	}
	checkSound(t, false,
		of(0, many(0, -1, 1), over(api.OpCat, 2, 3), over(api.OpCat, 4, 5), a, a, a),
		of(0, many(0, -1, 1), over(api.OpCat, 2, 3, 4), a, a, leaf(api.OpEmpty)),
		of(0, many(0, -1, 1), over(api.OpCat, 2), a),
		of(0, many(0, -1, 1), over(api.OpCat)),
		of(0, many(0, -1, 1), over(api.OpCat, 2, 2), a))
	checkSound(t, true, of(1, many(0, -1, 1), group(1, 2), over(api.OpAlt, 3, 4), any, many(1, 1, 5), any))
}

// TestWhatLiesBehindAListIsNotRead: neither more nodes nor more kids are there than the lists say.
func TestWhatLiesBehindAListIsNotRead(t *testing.T) {
	nodes := []api.Node{over(api.OpCat, 1, 2), leaf(api.OpAny), leaf(api.OpAny)}
	checkSound(t, false, api.Pat{Nodes: nodes[:2]})
	kids := []int{1, 2, 99}
	p := of(0, api.Node{Op: api.OpCat, Kids: kids[:2]}, leaf(api.OpAny), leaf(api.OpAny))
	checkSound(t, true, p)
	if kids[2] != 99 {
		t.Error("written behind a list")
	}
}

func TestPrintEachOp(t *testing.T) {
	a, b := api.Node{Op: api.OpByte, C: 'a'}, api.Node{Op: api.OpByte, C: 0xf}
	set := api.Set{1, 0xfedcba9876543210, 0, math.MaxUint64}
	lazy := many(2, 60, 1)
	lazy.Lazy = true
	for want, p := range map[string]api.Pat{
		"0a:e":             of(0, leaf(api.OpEmpty)),
		"3a:b61":           of(3, a),
		"0a:b0f":           of(0, b),
		"0a:b00":           of(0, leaf(api.OpByte)),
		"0a:bff":           of(0, api.Node{Op: api.OpByte, C: 0xff}),
		"9a:.":             of(9, leaf(api.OpAny)),
		"0a:(b61b0f)":      of(0, over(api.OpCat, 1, 2), a, b),
		"0a:(b0fb61.)":     of(0, over(api.OpCat, 2, 1, 3), a, b, leaf(api.OpAny)),
		"0a:(b61|b0f)":     of(0, over(api.OpAlt, 1, 2), a, b),
		"0a:(b0f|.|b61)":   of(0, over(api.OpAlt, 2, 3, 1), a, b, leaf(api.OpAny)),
		"0a:{2,60}b61":     of(0, many(2, 60, 1), a),
		"0a:{0,-1}b61":     of(0, many(0, -1, 1), a),
		"0a:{0,-77}b61":    of(0, many(0, -77, 1), a),
		"0a:{-2,60}b61":    of(0, lazy, a),
		"9a:<9b61>":        of(9, group(9, 1), a),
		`2a:\2`:            of(2, back(2)),
		"0a:^":             of(0, leaf(api.OpBol)),
		"0a:$":             of(0, leaf(api.OpEol)),
		"0a:[":             of(0, leaf(api.OpBow)),
		"0a:]":             of(0, leaf(api.OpEow)),
		"0a:!":             of(0, leaf(api.OpZs)),
		"0a:?":             of(0, leaf(api.OpZe)),
		"1a:((b61|<1e>)$)": of(1, over(api.OpCat, 1, 2), over(api.OpAlt, 3, 4), leaf(api.OpEol), a, group(1, 5), leaf(api.OpEmpty)),
		"0a:s0000000000000001fedcba98765432100000000000000000ffffffffffffffff": of(0, api.Node{Op: api.OpSet, Set: set}),
	} {
		if is := pat.Print(p); is != want {
			t.Errorf("Print(%v): %s, want %s", p, is, want)
		}
	}
}

func TestPrintCase(t *testing.T) {
	for casing, letter := range map[uint8]string{api.CaseAsked: "a", api.CaseIgnore: "i", api.CaseMatch: "m"} {
		p := of(0, leaf(api.OpAny))
		p.Case = casing
		if is := pat.Print(p); is != "0"+letter+":." {
			t.Errorf("case %d: %s", casing, is)
		}
	}
}

// TestAnyCase: a case that has no name makes no pattern unsound, and no call panic.
func TestAnyCase(t *testing.T) {
	for casing := range 256 {
		p := of(0, leaf(api.OpAny))
		p.Case = uint8(casing)
		checkSound(t, true, p)
		if is := pat.Print(p); len(is) != 4 || is[0] != '0' || is[2:] != ":." {
			t.Errorf("case %d: %s", casing, is)
		}
	}
}

// deep are groups in groups, with OpMany between: far more than a pattern that is read may have.
func deep(levels int) []api.Node {
	nodes := []api.Node{}
	for range levels {
		nodes = append(nodes, many(0, 1, len(nodes)+1), group(9, len(nodes)+2))
	}
	return nodes
}

func TestDeepPatterns(t *testing.T) {
	const levels = 100000
	p := of(9, append(deep(levels), leaf(api.OpAny))...)
	want := "9a:" + strings.Repeat("{0,1}<9", levels) + "." + strings.Repeat(">", levels)
	if !pat.Sound(p) || pat.Print(p) != want {
		t.Error("deep, and not right")
	}
	for _, end := range []api.Node{leaf(0), group(9, 0), group(9, levels)} {
		if q := of(9, append(deep(levels), end)...); pat.Sound(q) || pat.Print(q) != "" {
			t.Errorf("deep, and sound with %v at its end", end)
		}
	}
}

func TestWidePatterns(t *testing.T) {
	p := of(0, over(api.OpAlt))
	for i := range 100000 {
		p.Nodes[0].Kids = append(p.Nodes[0].Kids, i+1)
		p.Nodes = append(p.Nodes, leaf(api.OpAny))
	}
	if is := pat.Print(p); is != "0a:("+strings.Repeat(".|", 99999)+".)" {
		t.Errorf("wide: %d bytes", len(is))
	}
	p.Nodes[0].Kids = append(p.Nodes[0].Kids, 5)
	checkSound(t, false, p)
}
