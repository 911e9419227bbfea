package expand_test

import (
	"math"
	"strings"
	"testing"

	"emendator/api"
	"emendator/expand"
	"emendator/match"
	"emendator/pat"
	"emendator/prog"
	"emendator/tmpl"
)

func TestExample(t *testing.T) {
	l := pieces(casing('u'), group(0), text("x"), casing('U'), group(0))
	check(t, l, "ab", remembering(0, 2), "AbxAB")
	check(t, tmpl.Parse(`\u&x\U&`), "ab", remembering(0, 2), "AbxAB")
}

// TestWithLayersBelow: a pattern's first match in a line, and what is put in its place.
func TestWithLayersBelow(t *testing.T) {
	for _, row := range []struct {
		pattern, line, replacement string
		want                       []string
	}{
		{`b\(c\)\(x\)\=`, `abcd`, `<&-\1-\2>`, []string{"<bc-c->"}},
		{`\(a*\)b`, `b`, `[\1]`, []string{"[]"}},
		{`a\zsb\zec`, `abc`, `&&`, []string{"bb"}},
		{`\(\w\+\) \(\w\+\)`, `one two`, `\u\2\r\U\1\E.`, []string{"Two", "ONE."}},
		{`$`, `abc`, `&\n\t`, []string{"\x00\x09"}},
	} {
		p, _, _ := pat.Parse(row.pattern, "")
		c, _ := prog.Compile(p, false)
		m, _, ok, _ := match.From(c, row.line, 0, api.MaxSteps)
		if !ok {
			t.Errorf("%s: no match in %s", row.pattern, row.line)
		}
		check(t, tmpl.Parse(row.replacement), row.line, m, row.want...)
	}
}

// TestNoPieces: there is one line, empty, always.
func TestNoPieces(t *testing.T) {
	check(t, nil, "ab", remembering(0, 2), "")
	check(t, pieces(), "ab", remembering(0, 2), "")
	check(t, nil, "", api.Match{}, "")
	if is := expand.Lines(nil, "ab", api.Match{}); len(is) != 1 || is[0] != "" {
		t.Errorf("of nil: %q", is)
	}
}

func TestText(t *testing.T) {
	checkPlain(t, pieces(text("a")), "a")
	checkPlain(t, pieces(text("aBc")), "aBc")
	checkPlain(t, pieces(text("a"), text("b"), text("c")), "abc")
	checkPlain(t, pieces(text("")), "")
	checkPlain(t, pieces(text(""), text("a"), text("")), "a")
	checkPlain(t, pieces(text(`\u&~\1\r`)), `\u&~\1\r`)
	checkPlain(t, pieces(text("a\nb\rc\x00d\tE")), "a\nb\rc\x00d\tE")
	checkPlain(t, pieces(text("é\xff\x80")), "é\xff\x80")
}

func TestSplit(t *testing.T) {
	checkPlain(t, pieces(split()), "", "")
	checkPlain(t, pieces(split(), split()), "", "", "")
	checkPlain(t, pieces(text("a"), split(), text("b")), "a", "b")
	checkPlain(t, pieces(split(), text("b")), "", "b")
	checkPlain(t, pieces(text("a"), split()), "a", "")
	checkPlain(t, pieces(text("a"), split(), split(), text("b")), "a", "", "b")
	checkPlain(t, pieces(text("abc"), split(), text("d"), split(), text("ef")), "abc", "d", "ef")
	check(t, pieces(group(0), split(), group(1), group(0)), "abc", remembering(0, 1, 1, 3), "a", "bca")
}

func TestGroup(t *testing.T) {
	m := remembering(1, 4, 0, 2, 5, 6, 0, 6)
	check(t, pieces(group(0)), "aBcDeF", m, "BcD")
	check(t, pieces(group(1)), "aBcDeF", m, "aB")
	check(t, pieces(group(2)), "aBcDeF", m, "F")
	check(t, pieces(group(3)), "aBcDeF", m, "aBcDeF")
	check(t, pieces(group(2), text("-"), group(1), group(1)), "aBcDeF", m, "F-aBaB")
	check(t, pieces(text("<"), group(4), text(">")), "aBcDeF", m, "<>")
}

// TestEachGroup: 0 to 9 each lay what is theirs; there is no other one.
func TestEachGroup(t *testing.T) {
	const line = "0123456789"
	m := api.Match{From: 3, To: 7}
	for n := range 10 {
		m.Begin[n], m.End[n] = n, n+1
	}
	for n := range 10 {
		check(t, pieces(group(n)), line, m, line[n:n+1])
		check(t, pieces(text("a"), group(n), text("b")), line, m, "a"+line[n:n+1]+"b")
	}
	for _, n := range []int{-1, -2, -10, 10, 11, 19, 20, 256, 1 << 32, 1<<32 + 1, math.MinInt, math.MinInt + 1, math.MaxInt} {
		check(t, pieces(group(n)), line, m, "")
		check(t, pieces(text("a"), group(n), text("b")), line, m, "ab")
	}
}

// TestPlaces: a group whose places are not in the line, or fall, lays nothing, not even a part.
func TestPlaces(t *testing.T) {
	for _, row := range []struct {
		begin, end int
		want       string
	}{
		{0, 0, ""}, {0, 1, "a"}, {0, 3, "abc"}, {1, 3, "bc"}, {2, 3, "c"}, {1, 1, ""}, {3, 3, ""},
		{-1, -1, ""}, {-1, 0, ""}, {-1, 2, ""}, {-1, 3, ""}, {-3, 3, ""}, {-3, -1, ""},
		{0, -1, ""}, {2, -1, ""}, {3, -1, ""}, {4, -1, ""},
		{0, 4, ""}, {2, 4, ""}, {3, 4, ""}, {4, 4, ""}, {4, 3, ""}, {4, 5, ""}, {-1, 4, ""},
		{1, 0, ""}, {2, 1, ""}, {3, 0, ""}, {3, 2, ""}, {4, 1, ""},
		{math.MinInt, 3, ""}, {0, math.MinInt, ""}, {math.MaxInt, 3, ""}, {0, math.MaxInt, ""},
		{math.MinInt, math.MaxInt, ""}, {math.MaxInt, math.MinInt, ""}, {math.MaxInt, math.MaxInt, ""}, {math.MinInt, math.MinInt, ""},
	} {
		for n := range 10 {
			m := remembering()
			m.Begin[n], m.End[n] = row.begin, row.end
			check(t, pieces(group(n)), "abc", m, row.want)
			check(t, pieces(text("<"), group(n), split(), group(n), text(">")), "abc", m, "<"+row.want, row.want+">")
		}
	}
}

// TestEachPlace: all places in short lines, and beyond both of their ends.
func TestEachPlace(t *testing.T) {
	for size := range 5 {
		line := "abcd"[:size]
		for begin := -2; begin <= size+2; begin++ {
			for end := -2; end <= size+2; end++ {
				want := ""
				for at := range size {
					if 0 <= begin && end <= size && begin <= at && at < end {
						want += line[at : at+1]
					}
				}
				check(t, pieces(group(1)), line, remembering(0, 0, begin, end), want)
			}
		}
	}
}

// TestGroupNotFromTo: what is replaced is told by From and To, what group 0 lays by its own places.
func TestGroupNotFromTo(t *testing.T) {
	m := remembering(0, 1)
	m.From, m.To = 1, 3
	check(t, pieces(group(0)), "abc", m, "a")
	m = remembering()
	m.From, m.To = 1, 3
	check(t, pieces(group(0)), "abc", m, "")
}

// TestGroupIsNotRead: what a group lays are bytes, whatever they would mean in a replacement.
func TestGroupIsNotRead(t *testing.T) {
	check(t, pieces(group(0)), `\u&\r~`, remembering(0, 6), `\u&\r~`)
	check(t, pieces(group(0)), "a\nb\rc\x00", remembering(0, 6), "a\nb\rc\x00")
	check(t, pieces(group(0), group(1)), "é", remembering(0, 1, 1, 2), "é")
	check(t, pieces(group(1), group(0)), "é", remembering(0, 1, 1, 2), "\xa9\xc3")
}

// TestOtherKinds: pieces of other Kinds lay nothing, begin no line, and say nothing of what is laid.
func TestOtherKinds(t *testing.T) {
	m := remembering(0, 1, 1, 2)
	for n := range 256 {
		if 1 <= n && n <= 4 {
			continue
		}
		for _, c := range []byte("ulULE\x00") {
			other := api.Tm{Kind: uint8(n), Text: "x", N: 1, C: c}
			check(t, pieces(other), "ab", m, "")
			check(t, pieces(text("aB"), other, group(0)), "ab", m, "aBa")
			check(t, pieces(casing('u'), other, text("aB")), "ab", m, "AB")
			check(t, pieces(casing('l'), other, text("Ba")), "ab", m, "ba")
			check(t, pieces(casing('U'), other, text("aB")), "ab", m, "AB")
			check(t, pieces(casing('L'), other, text("Ba")), "ab", m, "ba")
			check(t, pieces(text("a"), other, split(), other, text("b")), "ab", m, "a", "b")
		}
	}
}

// TestLong: beyond all limits of lines, too, every byte and every line is there.
func TestLong(t *testing.T) {
	const many = 1 << 16
	checkPlain(t, pieces(casing('u'), text(strings.Repeat("ab", many))), "Ab"+strings.Repeat("ab", many-1))
	checkPlain(t, pieces(casing('U'), text(strings.Repeat("ab", many))), strings.Repeat("AB", many))
	line := strings.Repeat("xY", many)
	check(t, pieces(group(0), casing('L'), group(0)), line, remembering(0, 2*many), line+strings.Repeat("xy", many))
	var l []api.Tm
	var want []string
	for range many {
		l = append(l, casing('u'), text("ab"), split())
		want = append(want, "Ab")
	}
	checkPlain(t, l, append(want, "")...)
}

// TestNothingIsKept: what a call was told of letters is not there for the next one.
func TestNothingIsKept(t *testing.T) {
	for _, c := range []byte("ulULE") {
		expand.Lines(pieces(text("q"), casing(c)), "", api.Match{})
		checkPlain(t, pieces(text("aB")), "aB")
		checkPlain(t, pieces(text("Ba")), "Ba")
	}
}

// TestAnswersApart: two answers share no list.
func TestAnswersApart(t *testing.T) {
	l := pieces(text("a"), split(), text("b"))
	one := expand.Lines(l, "", api.Match{})
	two := expand.Lines(l, "", api.Match{})
	one[0], one[1] = "x", "y"
	if two[0] != "a" || two[1] != "b" {
		t.Errorf("an answer changed with another one: %q", two)
	}
}
