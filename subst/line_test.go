package subst_test

import (
	"reflect"
	"slices"
	"strings"
	"testing"

	"emendator/api"
	"emendator/subst"
	"emendator/tmpl"
)

func TestExample(t *testing.T) {
	checkAll(t, `x*`, `-`, "axb", "-a-b-, 3, 0")
}

func TestNoMatch(t *testing.T) {
	for _, line := range []string{"", "a", "abc", "a\x00\xff\nb"} {
		checkFirst(t, "z", "-", line, line+", 0, 0")
		checkAll(t, "z", "-", line, line+", 0, 0")
		checkAll(t, "z", `\r\r`, line, line+", 0, 0")
		checkAsked(t, "z", "-", line, "", line+", 0, 0")
		checkAsked(t, "z", "-", line, "yalq", line+", 0, 0")
		checkAskedFirst(t, "z", "-", line, "yalq", line+", 0, 0")
	}
}

func TestOneMatch(t *testing.T) {
	for line, want := range map[string]string{
		"b": "-, 1, 0", "bcd": "-cd, 1, 0", "abc": "a-c, 1, 0", "acb": "ac-, 1, 0",
	} {
		checkFirst(t, "b", "-", line, want)
		checkAll(t, "b", "-", line, want)
	}
}

// TestFirstAlone: the others stay.
func TestFirstAlone(t *testing.T) {
	checkFirst(t, "b", "-", "bb", "-b, 1, 0")
	checkFirst(t, "b", "-", "abcb", "a-cb, 1, 0")
	checkFirst(t, "b*", "-", "bba", "-a, 1, 0")
	checkFirst(t, "b*", "-", "abba", "-abba, 1, 0")
	checkFirst(t, "b", "", "abcb", "acb, 1, 0")
	checkFirst(t, "b$", "-", "abcb", "abc-, 1, 0")
	checkFirst(t, "$", "-", "ab", "ab-, 1, 0")
	checkFirst(t, "", "-", "ab", "-ab, 1, 0")
}

func TestAllMatches(t *testing.T) {
	checkAll(t, "b", "-", "bb", "--, 2, 0")
	checkAll(t, "b", "-", "abcb", "a-c-, 2, 0")
	checkAll(t, "b", "", "abcb", "ac, 2, 0")
	checkAll(t, "b", "", "bbb", ", 3, 0")
	checkAll(t, "b", "xyz", "abcbd", "axyzcxyzd, 2, 0")
	checkAll(t, "ab", "-", "abcabab", "-c--, 3, 0")
	checkAll(t, "aa", "-", "aaaaa", "--a, 2, 0")
	checkAll(t, `\w\+`, "-", "one, two", "-, -, 2, 0")
	checkAll(t, `^a`, "-", "aaa", "-aa, 1, 0")
	checkAll(t, `a$`, "-", "aaa", "aa-, 1, 0")
	checkAll(t, `\<a`, "-", "aa a", "-a -, 2, 0")
	checkAll(t, `a\>`, "-", "aa a", "a- -, 2, 0")
	checkAll(t, `\cb`, "-", "bBc", "--c, 2, 0")
}

// TestWhatWasLaidIsNotLookedAt: matches are those of the line as it was.
func TestWhatWasLaidIsNotLookedAt(t *testing.T) {
	checkAll(t, "a", "aa", "aba", "aabaa, 2, 0")
	checkAll(t, "ab", "a", "abbb", "abb, 1, 0")
	checkAll(t, `^.`, "", "abc", "bc, 1, 0")
	checkAll(t, `.$`, "", "abc", "ab, 1, 0")
	checkAll(t, `\<.`, "-", "ab cd", "-b -d, 2, 0")
}

func TestEmptyMatches(t *testing.T) {
	checkAll(t, "", "-", "", "-, 1, 0")
	checkAll(t, "", "-", "abc", "-a-b-c-, 4, 0")
	checkAll(t, "z*", "-", "", "-, 1, 0")
	checkAll(t, "z*", "-", "ab", "-a-b-, 3, 0")
	checkAll(t, "^", "-", "ab", "-ab, 1, 0")
	checkAll(t, "^", "-", "", "-, 1, 0")
	checkAll(t, "$", "-", "ab", "ab-, 1, 0")
	checkAll(t, "$", "-", "", "-, 1, 0")
	checkAll(t, `\<`, "-", "ab cd", "-ab -cd, 2, 0")
	checkAll(t, `\>`, "-", "ab cd", "ab- cd-, 2, 0")
	checkAll(t, `\v^|$`, "-", "ab", "-ab-, 2, 0")
	checkAll(t, `\v^|$`, "-", "", "-, 1, 0")
	checkAll(t, "z*", "", "ab", "ab, 3, 0")
}

// TestEmptyMatchBehindAnother: an empty one at the end of the match ahead is passed over, one byte behind it is not.
func TestEmptyMatchBehindAnother(t *testing.T) {
	checkAll(t, "x*", "-", "x", "-, 1, 0")
	checkAll(t, "x*", "-", "xx", "-, 1, 0")
	checkAll(t, "x*", "-", "xa", "-a-, 2, 0")
	checkAll(t, "x*", "-", "ax", "-a-, 2, 0")
	checkAll(t, "x*", "-", "xax", "-a-, 2, 0")
	checkAll(t, "x*", "-", "xxaaxx", "-a-a-, 3, 0")
	checkAll(t, `\vx|$`, "-", "x", "-, 1, 0")
	checkAll(t, `\vx|$`, "-", "xa", "-a-, 2, 0")
	checkAll(t, `\v..|$`, "-", "abcd", "--, 2, 0")
	checkAll(t, `\v..|$`, "-", "abcde", "--e-, 3, 0")
	checkAll(t, `\va+|b*`, "-", "aabba", "---, 3, 0")
}

// TestFullMatchBehindAnother: what is not empty is replaced also at the end of the match ahead, be that empty or not.
func TestFullMatchBehindAnother(t *testing.T) {
	checkAll(t, `x\=`, "-", "xx", "--, 2, 0")
	checkAll(t, `x\=`, "-", "xxa", "--a-, 3, 0")
	checkAll(t, `\v<|x`, "-", "xx", "-x-, 2, 0")
	checkAll(t, `\v^|ab`, "-", "abab", "-ab-, 2, 0")
}

// TestEmptyMatchNotReplaced: it is LAST also if the answer was no, as is one that is not empty.
func TestEmptyMatchNotReplaced(t *testing.T) {
	checkAsked(t, "x*", "-", "axb", "nyy", "a-b-, 2, 3")
	checkAsked(t, "x*", "-", "axb", "nny", "axb-, 1, 3")
	checkAsked(t, "x*", "-", "axb", "ynn", "-axb, 1, 3")
	checkAsked(t, "x*", "-", "xx", "n", "xx, 0, 1")
	checkAsked(t, "x*", "-", "xx", "ny", "xx, 0, 1")
	checkAsked(t, "x*", "-", "xxa", "nyyy", "xxa-, 1, 2")
}

// TestBeginAndEndSaid: From and To are as \zs and \ze say, and so is where it goes on: behind an empty match one byte further, so that a\zs does not come by the a that stands there.
func TestBeginAndEndSaid(t *testing.T) {
	checkAll(t, `a\zsb`, "-", "abb ab b", "a-b a- b, 2, 0")
	checkAll(t, `a\zeb`, "-", "abaab", "-ba-b, 2, 0")
	checkAll(t, `a\zs`, "-", "aab", "a-ab, 1, 0")
	checkAll(t, `a\zs`, "-", "abab", "a-ba-b, 2, 0")
	checkAll(t, `\zea`, "-", "aab", "-a-ab, 2, 0")
	checkAll(t, `a*\zs`, "-", "aab", "aa-b-, 2, 0")
	checkAll(t, `.\zea`, "-", "aaaa", "---a, 3, 0")
	checkAll(t, `.\zs.`, "-", "abcde", "a-c-e, 2, 0")
	checkAll(t, `\zeab\zs`, "-", "abab", "ab-ab, 1, 0")
	checkAll(t, `.\zs\ze.`, "<&>", "abcd", "a<>bc<>d, 2, 0")
	checkFirst(t, `a\zsb\zec`, "-", "abcabc", "a-cabc, 1, 0")
}

func TestGroups(t *testing.T) {
	checkAll(t, `\(\w\+\)-\(\w\+\)`, `\2-\1`, "a-b c-d", "b-a d-c, 2, 0")
	checkAll(t, `b`, `<&&>`, "abcb", "a<bb>c<bb>, 2, 0")
	checkAll(t, `\(b\)\(c\)\=`, `[\1\2\3]`, "abcb", "a[bc][b], 2, 0")
	checkAll(t, `b*`, `<&>`, "abbc", "<>a<bb>c<>, 3, 0")
	checkAll(t, `\v(.)\1`, `\1`, "aabbcd", "abcd, 2, 0")
	checkFirst(t, `a\(.\)\zsb`, `\1&\0`, "acb", "accbb, 1, 0")
}

func TestSplits(t *testing.T) {
	checkFirst(t, ",", `\r`, "a,b,c", "a|b,c, 1, 0")
	checkAll(t, ",", `\r`, "a,b,c", "a|b|c, 2, 0")
	checkAll(t, ",", `<\r-\r>`, "a,b,c", "a<|-|>b<|-|>c, 2, 0")
	checkAll(t, ",", `\r`, ",", "|, 1, 0")
	checkAll(t, ",", `\r`, ",,", "||, 2, 0")
	checkAll(t, "x*", `\r`, "axb", "|a|b|, 3, 0")
	checkAll(t, `\(.\),`, `\r\1\r`, "a,b,c", "|a||b|c, 2, 0")
	checkAsked(t, ",", `\r`, "a,b,c,d", "yny", "a|b,c|d, 2, 3")
}

// TestCases: what a replacement says of letters ends with it.
func TestCases(t *testing.T) {
	checkAll(t, `\w\+`, `\u&`, "one two", "One Two, 2, 0")
	checkAll(t, `b`, `\U&x`, "abcb", "aBXcBX, 2, 0")
	checkAll(t, `b`, `x\u`, "abcb", "axcx, 2, 0")
	checkAll(t, `b`, `\L&\r\E&`, "aBcB", "aBcB, 0, 0")
	checkAll(t, `B`, `\L&\r\E&`, "aBcB", "ab|Bcb|B, 2, 0")
}

// TestOtherPieces: pieces need not be those of a replacement that was written.
func TestOtherPieces(t *testing.T) {
	for n := range 256 {
		want := "axc, 1, 0"
		switch uint8(n) {
		case api.TmText:
			want = "axtc, 1, 0"
		case api.TmGroup:
			want = "axbc, 1, 0"
		case api.TmSplit:
			want = "ax|c, 1, 0"
		}
		l := []api.Tm{{Kind: api.TmText, Text: "x"}, {Kind: uint8(n), Text: "t", N: 0, C: 'U'}}
		check(t, asking{p: read(t, "b"), l: l, line: "abc", all: true}, want)
	}
	check(t, asking{p: read(t, "b"), line: "abc", all: true}, "ac, 1, 0")
}

// TestEachByte: any byte of a line, of a replacement, of a match.
func TestEachByte(t *testing.T) {
	for n := range 256 {
		c := string([]byte{byte(n)})
		l := []api.Tm{{Kind: api.TmText, Text: c}, {Kind: api.TmGroup}}
		check(t, asking{p: read(t, "[a]"), l: l, line: c + "a" + c, all: c != "a"}, map[bool]string{false: c + c + "a" + c + ", 1, 0", true: "aaaa, 1, 0"}[c == "a"])
		check(t, asking{p: read(t, "."), l: l, line: c + c, all: true}, c+c+c+c+", 2, 0")
		check(t, asking{p: read(t, "$"), l: l, line: c, all: true}, c+c+", 1, 0")
	}
}

// TestUnsound: a program that is not sound is refused, whatever else there is.
func TestUnsound(t *testing.T) {
	match := api.Inst{Op: api.InMatch}
	for why, p := range map[string]api.Prog{
		"no code":                {},
		"too long":               {Code: slices.Repeat([]api.Inst{match}, 2001)},
		"it ends with a byte":    {Code: []api.Inst{{Op: api.InByte, C: 'b'}}},
		"an Op that is none":     {Code: []api.Inst{match, {Op: 15}, match}},
		"a jump beyond the code": {Code: []api.Inst{{Op: api.InJump, X: 2}, match}},
		"a slot that is none":    {Code: []api.Inst{{Op: api.InSave, X: 22}, match}},
		"a round that is none":   {Code: []api.Inst{{Op: api.InStart}, match}},
		"rounds below 0":         {Code: []api.Inst{match}, Rounds: -1},
	} {
		t.Log(why)
		for _, line := range []string{"", "b", strings.Repeat("b", 1001), strings.Repeat("b", 6000)} {
			for _, flag := range []bool{false, true} {
				check(t, asking{p: p, line: line, all: flag}, errArg)
				check(t, asking{p: p, l: tmpl.Parse("x"), line: line, all: flag, ask: true}, errArg)
				check(t, asking{p: p, l: tmpl.Parse("x"), line: line, all: flag, ask: true, answers: []byte("y")}, errArg)
			}
		}
	}
}

// TestEndlessProgram: one that goes round and round ends with its steps.
func TestEndlessProgram(t *testing.T) {
	loop := api.Prog{Code: []api.Inst{{Op: api.InJump}}}
	check(t, asking{p: loop, line: ""}, errSteps)
	check(t, asking{p: loop, line: "abc", all: true, ask: true}, errSteps)
}

// TestNilAndEmpty: lists that are nil and lists that are empty are the same.
func TestNilAndEmpty(t *testing.T) {
	for _, ask := range []bool{false, true} {
		one, e := subst.Line(read(t, "b"), nil, "abc", true, ask, nil)
		two, f := subst.Line(read(t, "b"), []api.Tm{}, "abc", true, ask, []byte{})
		if e != api.OK || f != api.OK || !reflect.DeepEqual(one, two) {
			t.Errorf("%v, error %d; %v, error %d", one, e, two, f)
		}
	}
}

// TestAnswersApart: two changes share no list.
func TestAnswersApart(t *testing.T) {
	p, l := read(t, ","), tmpl.Parse(`\r`)
	one, _ := subst.Line(p, l, "a,b", true, false, nil)
	two, _ := subst.Line(p, l, "a,b", true, false, nil)
	one.Lines[0], one.Lines[1] = "x", "y"
	if !slices.Equal(two.Lines, []string{"a", "b"}) {
		t.Errorf("a change changed with another one: %q", two.Lines)
	}
}
