package addr_test

import (
	"math"
	"strings"
	"testing"

	"emendator/addr"
	"emendator/api"
	"emendator/buf"
)

func TestEvalExample(t *testing.T) {
	checkLines(t, text(t, "a/b/c/d/e", 1), "2,$-1", `2 4 ""`)
}

// TestEvalNone: the cursor's line, twice; the last pattern is what it was.
func TestEvalNone(t *testing.T) {
	for cursor := 1; cursor <= 3; cursor++ {
		b := text(t, "a/b/c", cursor)
		checkEval(t, b, worded{}, told(cursor, cursor, ""))
		checkEval(t, b, worded{`\(`, longTilde(), true}, told(cursor, cursor, `\(`))
	}
	if from, to, last, e := addr.Eval(text(t, "a/b", 2), []api.Addr{}, "x", "", false); from != 2 || to != 2 || last != "x" || e != api.OK {
		t.Errorf("%d, %d, %q, error %d", from, to, last, e)
	}
}

func TestEvalLines(t *testing.T) {
	b := text(t, "a/b/c/d/e", 3)
	checkLines(t, b, "1", `1 1 ""`)
	checkLines(t, b, "5", `5 5 ""`)
	checkLines(t, b, ".", `3 3 ""`)
	checkLines(t, b, "$", `5 5 ""`)
	checkLines(t, b, "%", `1 5 ""`)
	checkLines(t, b, "2,4", `2 4 ""`)
	checkLines(t, b, ".,$", `3 5 ""`)
	checkLines(t, b, "1,.", `1 3 ""`)
	checkLines(t, b, "4,4", `4 4 ""`)
	checkLines(t, b, ",", `3 3 ""`)
	checkLines(t, b, "2,", `2 3 ""`)
	checkLines(t, b, ",4", `3 4 ""`)
}

func TestEvalOffsets(t *testing.T) {
	b := text(t, "a/b/c/d/e", 3)
	checkLines(t, b, "+", `4 4 ""`)
	checkLines(t, b, "-", `2 2 ""`)
	checkLines(t, b, "-,+", `2 4 ""`)
	checkLines(t, b, "$-4", `1 1 ""`)
	checkLines(t, b, "1+4", `5 5 ""`)
	checkLines(t, b, ".+2-1", `4 4 ""`)
	checkLines(t, b, "9-4", `5 5 ""`)
	checkLines(t, b, "0+1", `1 1 ""`)
	checkLines(t, b, "999999999-999999996", `3 3 ""`)
	checkLines(t, b, "/e/-2", `3 3 "e"`)
	checkLines(t, b, "?a?+", `2 2 "a"`)
	set(t, b, 'm', 2)
	checkLines(t, b, "'m+2", `4 4 ""`)
	checkLines(t, b, "'m-", `1 1 ""`)
}

// TestEvalBounds: 0 to Len, of each kind.
func TestEvalBounds(t *testing.T) {
	b := text(t, "a/b/c", 2)
	set(t, b, 'm', 2)
	for _, s := range []string{"0", "2-2", ".-2", "$-3", "'m-2", "/c/-3", "?a?-1"} {
		l, _, _ := parse(t, s)
		last := l[0].Pat
		checkEval(t, b, worded{}, told(0, 0, last), l...)
		l[0].Off--
		checkEval(t, b, worded{}, refused(api.ErrRange), l...)
	}
	for _, s := range []string{"3", "2+1", ".+1", "$", "'m+1", "/c/", "?a?+2"} {
		l, _, _ := parse(t, s)
		last := l[0].Pat
		checkEval(t, b, worded{}, told(3, 3, last), l...)
		l[0].Off++
		checkEval(t, b, worded{}, refused(api.ErrRange), l...)
	}
	checkLines(t, b, "0,3", `0 3 ""`)
	checkLines(t, b, "4", refused(api.ErrRange))
	checkLines(t, b, "999999999", refused(api.ErrRange))
	checkLines(t, b, "1,4", refused(api.ErrRange))
	checkLines(t, b, "4,1", refused(api.ErrRange))
	checkLines(t, b, "-3", refused(api.ErrRange))
	one := text(t, "", 1)
	checkLines(t, one, "%", `1 1 ""`)
	checkLines(t, one, "0", `0 0 ""`)
	checkLines(t, one, "2", refused(api.ErrRange))
	full := textOf(t, strings.Split(strings.Repeat("x\n", 1999), "\n"), 2000)
	checkLines(t, full, "1,2000", `1 2000 ""`)
	checkLines(t, full, "$", `2000 2000 ""`)
	checkLines(t, full, "2001", refused(api.ErrRange))
	checkLines(t, full, "-1999", `1 1 ""`)
}

// TestEvalEachInBounds: also of an address that is not among the last two.
func TestEvalEachInBounds(t *testing.T) {
	b := text(t, "a/b/c", 2)
	checkLines(t, b, "4,1,2", refused(api.ErrRange))
	checkLines(t, b, "1,4,2,3", refused(api.ErrRange))
	checkLines(t, b, "1-2,1,2", refused(api.ErrRange))
	checkLines(t, b, "'z,1,2", refused(api.ErrMark))
	checkLines(t, b, "/z/,1,2", refused(api.ErrFind))
}

// TestEvalFirstAboveSecond: of the last two; of those ahead it does not matter.
func TestEvalFirstAboveSecond(t *testing.T) {
	b := text(t, "a/b/c", 2)
	checkLines(t, b, "3,2", refused(api.ErrRange))
	checkLines(t, b, "2,1", refused(api.ErrRange))
	checkLines(t, b, "1,0", refused(api.ErrRange))
	checkLines(t, b, "$,1", refused(api.ErrRange))
	checkLines(t, b, "3,", refused(api.ErrRange))
	checkLines(t, b, ",1", refused(api.ErrRange))
	checkLines(t, b, "3;2", refused(api.ErrRange))
	checkLines(t, b, "1,3,2", refused(api.ErrRange))
	checkLines(t, b, "/c/,/a/", refused(api.ErrRange))
	checkLines(t, b, "3,1,2", `1 2 ""`)
	checkLines(t, b, "3,2,1,1", `1 1 ""`)
	checkLines(t, b, "3,2,3", `2 3 ""`)
}

// TestEvalLastTwo: of more addresses these are told.
func TestEvalLastTwo(t *testing.T) {
	b := text(t, "a/b/c/d/e", 1)
	checkLines(t, b, "1,2,3", `2 3 ""`)
	checkLines(t, b, "1,2,3,4", `3 4 ""`)
	checkLines(t, b, "5,4,3,2,2", `2 2 ""`)
	checkLines(t, b, ",,,5", `1 5 ""`)
	checkLines(t, b, "/c/,2,3", `2 3 "c"`)
}

// TestEvalSemi: behind a ; all goes on from that line, behind a , from where it did.
func TestEvalSemi(t *testing.T) {
	b := text(t, "a/b/c/d/e", 1)
	checkLines(t, b, "3,+1", refused(api.ErrRange))
	checkLines(t, b, "3;+1", `3 4 ""`)
	checkLines(t, b, "3;.", `3 3 ""`)
	checkLines(t, b, "3;", `3 3 ""`)
	checkLines(t, b, "2+1;+1", `3 4 ""`)
	checkLines(t, b, "$;-1", refused(api.ErrRange))
	checkLines(t, b, "2;+1;+1", `3 4 ""`)
	checkLines(t, b, "2;3,+1", `3 3 ""`)
	checkLines(t, b, "2,3;+1", `3 4 ""`)
	checkLines(t, b, "+;+;+;+", `4 5 ""`)
	checkLines(t, b, "4;-2,.", `2 4 ""`)
	checkLines(t, b, "/d/;+1", `4 5 "d"`)
	checkLines(t, b, "4;?b?,.", `2 4 "b"`)
	set(t, b, 'm', 4)
	checkLines(t, b, "'m;+", `4 5 ""`)
	// Of the last one it goes nowhere, for the cursor stays.
	checkEval(t, b, worded{}, `3 3 ""`, semi(line(3)))
	checkLines(t, b, ".", `1 1 ""`)
}

// TestEvalSemiOfLine0: it is line 0 itself, and line 1 for what is behind.
func TestEvalSemiOfLine0(t *testing.T) {
	b := text(t, "a/b/a/b/a", 4)
	checkLines(t, b, "0;.", `0 1 ""`)
	checkLines(t, b, "0;+1", `0 2 ""`)
	checkLines(t, b, "0;-1", `0 0 ""`)
	checkLines(t, b, "0;-2", refused(api.ErrRange))
	checkLines(t, b, "0;/a/", `0 3 "a"`)
	checkLines(t, b, "0;?a?", `0 5 "a"`)
	checkLines(t, b, "-4;+1,.", refused(api.ErrRange))
	checkLines(t, b, "0,.", `0 4 ""`)
	checkLines(t, b, "0,/a/", `0 5 "a"`)
}

func TestEvalMarks(t *testing.T) {
	b := text(t, "a/b/c/d", 2)
	set(t, b, 'a', 1)
	set(t, b, 'z', 4)
	checkLines(t, b, "'a", `1 1 ""`)
	checkLines(t, b, "'a,'z", `1 4 ""`)
	checkLines(t, b, "'z,'a", refused(api.ErrRange))
	checkLines(t, b, "'a;+1", `1 2 ""`)
	for _, name := range []byte("bcyAZ0<'. \x00\xff") {
		checkEval(t, b, worded{}, refused(api.ErrMark), mark(name))
		checkEval(t, b, worded{}, refused(api.ErrMark), off(mark(name), 1))
		checkEval(t, b, worded{}, refused(api.ErrMark), line(1), mark(name))
	}
	if e := b.Splice(1, 1, nil); e != api.OK {
		t.Fatal(e)
	}
	checkLines(t, b, "'a", refused(api.ErrMark))
	checkLines(t, b, "'z", `3 3 ""`)
}

// TestEvalMarksAnywhere: a mark may be of a line that is not there: an offset brings it back.
func TestEvalMarksAnywhere(t *testing.T) {
	b := text(t, "a/b/c", 1)
	set(t, b, 'm', 4)
	set(t, b, 'n', math.MaxInt32)
	checkLines(t, b, "'m", refused(api.ErrRange))
	checkLines(t, b, "'m-1", `3 3 ""`)
	checkLines(t, b, "'m;1", refused(api.ErrRange))
	checkLines(t, b, "'n", refused(api.ErrRange))
	checkEval(t, b, worded{}, `2 2 ""`, off(mark('n'), 2-math.MaxInt32))
}

// TestEvalPatterns: behind HERE, or ahead of it, round the end; HERE itself comes last.
func TestEvalPatterns(t *testing.T) {
	for cursor, want := range []string{"2 2", "4 4", "4 4", "2 2", "2 2"} {
		checkLines(t, text(t, "a/b/c/b/e", cursor+1), "/b/", want+` "b"`)
	}
	for cursor, want := range []string{"4 4", "4 4", "2 2", "2 2", "4 4"} {
		checkLines(t, text(t, "a/b/c/b/e", cursor+1), "?b?", want+` "b"`)
	}
	for cursor := 1; cursor <= 3; cursor++ {
		b := text(t, "a/b/c", cursor)
		checkLines(t, b, "/b/", `2 2 "b"`)
		checkLines(t, b, "?b?", `2 2 "b"`)
		checkLines(t, b, "/z/", refused(api.ErrFind))
		checkLines(t, b, "?z?", refused(api.ErrFind))
		checkLines(t, b, "1,/z/", refused(api.ErrFind))
	}
	b := text(t, "aa/ab/bb/ba", 2)
	checkLines(t, b, "/^b/,/a$/", `3 4 "a$"`)
	checkLines(t, b, "?a$?,/a$/", `1 4 "a$"`)
	checkLines(t, b, "/b/;/b/", `3 4 "b"`)
	checkLines(t, b, "1;/a/;/a/", `2 4 "a"`)
	checkLines(t, b, "/a/;?a?", refused(api.ErrRange))
	checkLines(t, b, `/\(.\)\1/`, `3 3 "\\(.\\)\\1"`)
	checkLines(t, text(t, "x", 1), "/x/,?x?", `1 1 "x"`)
}

// TestEvalHereOfPatterns: it is the cursor's line behind a , and the line told behind a ; , its offset with it.
func TestEvalHereOfPatterns(t *testing.T) {
	b := text(t, "x/a/x/a/x/a", 1)
	checkLines(t, b, "4,/a/", refused(api.ErrRange))
	checkLines(t, b, "4;/a/", `4 6 "a"`)
	checkLines(t, b, "3+1;/a/", `4 6 "a"`)
	checkLines(t, b, "/a/,/a/", `2 2 "a"`)
	checkLines(t, b, "/a/;/a/", `2 4 "a"`)
	checkLines(t, b, "/a/+1;/a/", `3 4 "a"`)
	checkLines(t, b, "/a/+2;/a/", `4 6 "a"`)
	checkLines(t, b, "6;?a?,.", `4 6 "a"`)
	checkLines(t, b, "$;/a/-4", refused(api.ErrRange))
	checkLines(t, b, "3;$,?a?", refused(api.ErrRange))
	checkLines(t, b, "3;$;?a?,$", `4 6 "a"`)
}

// TestEvalLastPattern: an empty one is the last; what is told is that of the last one that was looked for.
func TestEvalLastPattern(t *testing.T) {
	b := text(t, "a/b/c/b/d", 1)
	checkEval(t, b, worded{last: "b"}, `2 2 "b"`, fore(""))
	checkEval(t, b, worded{last: "b"}, `4 4 "b"`, back(""))
	checkEval(t, b, worded{last: "b"}, `3 3 "c"`, fore("c"))
	checkEval(t, b, worded{last: "b"}, `2 3 "c"`, fore(""), fore("c"))
	checkEval(t, b, worded{last: "b"}, `3 3 "c"`, fore("c"), fore(""))
	checkEval(t, b, worded{last: "c"}, `2 4 "b"`, semi(fore("b")), fore(""))
	checkEval(t, b, worded{last: "c"}, `2 5 "d"`, fore("c"), fore("b"), back("d"))
	checkEval(t, b, worded{last: "c"}, `1 2 "d"`, fore("d"), line(1), line(2))
	checkEval(t, b, worded{last: "b"}, `1 5 "b"`, line(1), end())
	checkEval(t, b, worded{last: ""}, refused(api.ErrFind), fore(""))
	checkEval(t, b, worded{last: ""}, refused(api.ErrFind), back(""))
	checkEval(t, b, worded{last: ""}, refused(api.ErrFind), fore(""), fore("b"))
	checkEval(t, b, worded{last: "z"}, refused(api.ErrFind), fore(""))
	checkEval(t, b, worded{last: `\(`}, refused(api.ErrPatGroup), fore(""))
	checkEval(t, b, worded{last: `\(`}, `2 2 "b"`, fore("b"))
	checkEval(t, b, worded{last: `\(`}, `2 2 "\\("`, line(2))
}

// TestEvalTildeAndFold: patterns are read with both; what is told is the pattern as it stands.
func TestEvalTildeAndFold(t *testing.T) {
	b := text(t, "a/B/xy/b/XY", 1)
	checkEval(t, b, worded{tilde: "xy"}, `3 3 "~"`, fore("~"))
	checkEval(t, b, worded{last: "^~$", tilde: "xy"}, `3 3 "^~$"`, fore(""))
	checkEval(t, b, worded{tilde: "xy", fold: true}, `5 5 "~"`, back("~"))
	checkEval(t, b, worded{}, `4 4 "b"`, fore("b"))
	checkEval(t, b, worded{fold: true}, `2 2 "b"`, fore("b"))
	checkEval(t, b, worded{fold: true}, `4 4 "\\Cb"`, fore(`\Cb`))
	checkEval(t, b, worded{}, `2 2 "\\cb"`, fore(`\cb`))
	checkEval(t, b, worded{last: "b", fold: true}, `2 4 "b"`, fore(""), back(""))
	checkEval(t, b, worded{tilde: longTilde()}, refused(api.ErrPatBig), fore("b"))
	checkEval(t, b, worded{tilde: longTilde()}, `2 2 ""`, line(2))
	checkEval(t, b, worded{tilde: longTilde()}, refused(api.ErrFind), fore(""))
}

// endless are bytes of which the pattern costly needs too many steps.
const (
	costly  = `\v(a*)*(a*)*b`
	endless = "aaaaaaaaaaaaaaaaaaaaaaaa"
)

// TestEvalErrors: those of patterns and of steps.
func TestEvalErrors(t *testing.T) {
	b := textOf(t, []string{"b", endless, "ab", "x"}, 3)
	for s, want := range map[string]api.Errno{`\y`: api.ErrPatForm, `\(a`: api.ErrPatGroup, `a\+\+`: api.ErrPatMany, longPattern(): api.ErrPatBig, aBig: api.ErrPatBig} {
		checkEval(t, b, worded{}, refused(want), fore(s))
		checkEval(t, b, worded{}, refused(want), back(s))
		checkEval(t, b, worded{}, refused(want), line(1), fore(s))
		checkEval(t, b, worded{}, refused(want), fore(s), line(1), line(2))
		checkEval(t, b, worded{last: s}, refused(want), fore(""))
	}
	checkEval(t, b, worded{}, refused(api.ErrSteps), back(costly))
	checkEval(t, b, worded{}, told(1, 1, costly), fore(costly))
	checkEval(t, b, worded{}, refused(api.ErrSteps), semi(line(1)), fore(costly))
}

// TestEvalFirstError: of several errors it is that of the address that comes first; of one address its line's, then that it is not in the text; then that the first is above the second.
func TestEvalFirstError(t *testing.T) {
	b := text(t, "a/b/c", 2)
	wrong := []struct {
		a api.Addr
		e api.Errno
	}{{line(4), api.ErrRange}, {mark('z'), api.ErrMark}, {fore("z"), api.ErrFind}, {back(`\y`), api.ErrPatForm}, {fore(`\1`), api.ErrPatGroup}, {fore(`\+`), api.ErrPatMany}, {back(aBig), api.ErrPatBig}}
	for _, x := range wrong {
		checkEval(t, b, worded{}, refused(x.e), x.a)
		checkEval(t, b, worded{}, refused(x.e), off(x.a, 99))
		checkEval(t, b, worded{}, refused(x.e), off(x.a, math.MinInt))
		checkEval(t, b, worded{}, refused(x.e), line(3), line(1), x.a)
		for _, y := range wrong {
			checkEval(t, b, worded{}, refused(x.e), x.a, y.a)
			checkEval(t, b, worded{}, refused(x.e), line(1), semi(x.a), y.a)
		}
	}
}

// TestEvalAnyNumbers: an offset is added modulo 2^64.
func TestEvalAnyNumbers(t *testing.T) {
	b := text(t, "a/b/c", 2)
	for _, n := range []int{-1, -2, 4, 5, 1 << 31, 1 << 32, 1<<32 + 1, -1 << 32, math.MaxInt, math.MaxInt - 1, math.MinInt, math.MinInt + 1} {
		checkEval(t, b, worded{}, refused(api.ErrRange), line(n))
		checkEval(t, b, worded{}, refused(api.ErrRange), line(1), line(n))
		checkEval(t, b, worded{}, `3 3 ""`, off(line(n), 3-n))
		checkEval(t, b, worded{}, `0 0 ""`, off(line(n), -n))
		checkEval(t, b, worded{}, `2 2 ""`, off(dot(), 0))
	}
	checkEval(t, b, worded{}, refused(api.ErrRange), off(line(math.MaxInt), 1))
	checkEval(t, b, worded{}, refused(api.ErrRange), off(line(math.MaxInt), math.MaxInt))
	checkEval(t, b, worded{}, `1 1 ""`, off(line(math.MinInt+1), math.MinInt))
	for _, n := range []int{math.MaxInt, math.MinInt, math.MinInt + 1, 2, -3} {
		checkEval(t, b, worded{}, refused(api.ErrRange), off(dot(), n))
		checkEval(t, b, worded{}, refused(api.ErrRange), off(fore("b"), n))
	}
}

// TestEvalNoKind: an address of no kind has no line that could be in the text.
func TestEvalNoKind(t *testing.T) {
	b := text(t, "a/b/c", 2)
	for kind := range 256 {
		if kind >= 1 && kind <= 6 {
			continue
		}
		a := api.Addr{Kind: uint8(kind), N: 2, C: 'a', Pat: "b"}
		checkEval(t, b, worded{}, refused(api.ErrRange), a)
		checkEval(t, b, worded{}, refused(api.ErrRange), off(a, 1))
		checkEval(t, b, worded{}, refused(api.ErrRange), a, line(1))
	}
}

// TestEvalOtherFields: what an address's kind gives no meaning says nothing.
func TestEvalOtherFields(t *testing.T) {
	b := text(t, "a/b/c/d", 2)
	set(t, b, 'm', 3)
	full := func(kind uint8) api.Addr { return api.Addr{Kind: kind, N: 4, C: 'm', Pat: "a"} }
	for kind, want := range []string{api.AdLine: told(4, 4, "x"), api.AdDot: told(2, 2, "x"), api.AdEnd: told(4, 4, "x"), api.AdMark: told(3, 3, "x"), api.AdFore: told(1, 1, "a"), api.AdBack: told(1, 1, "a")} {
		if kind > 0 {
			checkEval(t, b, worded{last: "x"}, want, full(uint8(kind)))
		}
	}
}

// TestEvalOfAChangedText: the lines are those that are there now, open or not; nothing is kept from one call to another.
func TestEvalOfAChangedText(t *testing.T) {
	b := text(t, "a/b/c", 1)
	checkLines(t, b, "/c/,$", `3 3 "c"`)
	if e := b.Splice(1, 0, []string{"c", "x"}); e != api.OK {
		t.Fatal(e)
	}
	checkLines(t, b, "$", `5 5 ""`)
	checkLines(t, b, "/c/", `5 5 "c"`)
	checkLines(t, b, "?c?", `5 5 "c"`)
	b.Commit()
	b.Put(4)
	checkLines(t, b, "?c?,.", `1 4 "c"`)
	if e := b.Undo(); e != api.OK {
		t.Fatal(e)
	}
	checkLines(t, b, ".,/c/", `1 3 "c"`)
	checkLines(t, b, "4", refused(api.ErrRange))
	checkLines(t, b, "//", refused(api.ErrFind))
}

// TestEvalOfTwoTexts: each is asked of its own.
func TestEvalOfTwoTexts(t *testing.T) {
	b, other := text(t, "a/b/c", 1), text(t, "c/a", 2)
	set(t, b, 'm', 3)
	for range 2 {
		checkLines(t, b, "/c/,'m", `3 3 "c"`)
		checkLines(t, other, "/c/,$", `1 2 "c"`)
		checkLines(t, other, "'m", refused(api.ErrMark))
	}
}

// TestEvalManyAddresses: they are all asked, in one text of many lines.
func TestEvalManyAddresses(t *testing.T) {
	lines := make([]string, 2000)
	for i := range lines {
		lines[i] = "x"
	}
	lines[1999] = "y"
	b := textOf(t, lines, 1)
	var l []api.Addr
	for range 300 {
		l = append(l, semi(fore("x")), fore(`y$`))
	}
	checkEval(t, b, worded{}, `301 2000 "y$"`, l...)
	l = nil
	for range 100000 {
		l = append(l, semi(off(dot(), 1)), semi(off(dot(), -1)))
	}
	checkEval(t, b, worded{}, `1 2 ""`, append(l, dot(), off(dot(), 1))...)
}

// TestEvalOfOneEmptyLine: the least text there is.
func TestEvalOfOneEmptyLine(t *testing.T) {
	b, e := buf.New(nil, 1)
	if e != api.OK {
		t.Fatal(e)
	}
	checkLines(t, b, "", `1 1 ""`)
	checkLines(t, b, "%", `1 1 ""`)
	checkLines(t, b, "0,$", `0 1 ""`)
	checkLines(t, b, "/^$/", `1 1 "^$"`)
	checkLines(t, b, "?x?", refused(api.ErrFind))
}

// TestEvalOfAMeddledText: with states changed behind its back a text may be left without a line: no address is in it, and nothing panics.
func TestEvalOfAMeddledText(t *testing.T) {
	b := text(t, "a", 1)
	b.States().Add([]api.Delta{{At: 0, Old: nil, New: []string{"a"}}})
	if e := b.Undo(); e != api.OK || b.Len() != 0 {
		t.Fatalf("error %d, %q", e, b.Lines())
	}
	set(t, b, 'm', 1)
	checkLines(t, b, "0", `0 0 ""`)
	checkLines(t, b, "$", `0 0 ""`)
	checkLines(t, b, "1", refused(api.ErrRange))
	checkLines(t, b, "0;.", refused(api.ErrRange))
	checkLines(t, b, "'m", refused(api.ErrRange))
	for _, s := range []string{"", ".", "%", "/a/", "?a?", "0;/a/", "//", "/a/+1,?a?-1"} {
		l, _, _ := parse(t, s)
		eval(t, b, l, worded{})
	}
}
