package subst_test

import (
	"fmt"
	"math/rand"
	"reflect"
	"regexp"
	"slices"
	"strings"
	"testing"

	"emendator/api"
	"emendator/expand"
	"emendator/match"
	"emendator/tmpl"
)

// The chapter's sentences again, of another make: first all matches that would be asked about, then what is answered of each, then the line as a row of numbers, in which one that is no byte ends a line.

// search is the match at the least place from one on, place by place.
func search(p api.Prog, line string, from int) (api.Match, bool, api.Errno) {
	steps := 5000
	for at := from; at <= len(line); at++ {
		m, left, is, e := match.At(p, line, at, steps)
		if is || e != api.OK {
			return m, is, e
		}
		steps = left
	}
	return api.Match{}, false, api.OK
}

// visited are all matches that are asked about, and the error that ends them.
func visited(p api.Prog, line string) ([]api.Match, api.Errno) {
	var all []api.Match
	for from := 0; from <= len(line); {
		m, is, e := search(p, line, from)
		if !is {
			return all, e
		}
		from = m.To
		if m.From == m.To {
			from++
		}
		if len(all) == 0 || m.From != m.To || m.From != all[len(all)-1].To {
			all = append(all, m)
		}
	}
	return all, api.OK
}

// verdict is what is said of so many matches: of each a y or an n; how many answers are used, whether it is over, whether all was answered.
func verdict(a asking, many int) (said string, used int, over, all bool) {
	if !a.ask {
		return strings.Repeat("y", many), 0, false, false
	}
	row := regexp.MustCompile(`(?s)^[yn]*`).FindString(string(latin(a.answers)))
	if len(row) >= many {
		return row[:many], many, false, false
	}
	switch {
	case len(row) == len(a.answers):
		return row + "n", len(row), true, false
	case a.answers[len(row)] == 'a':
		return row + strings.Repeat("y", many-len(row)), len(row) + 1, false, true
	case a.answers[len(row)] == 'l':
		return row + "y", len(row) + 1, true, false
	}
	return row + "n", len(row) + 1, true, false
}

// latin are bytes as runes, so that a regular expression takes each for one.
func latin(all []byte) []rune {
	var row []rune
	for _, c := range all {
		row = append(row, rune(c))
	}
	return row
}

const aSplit = 256

func row(s string) []int {
	var all []int
	for i := range len(s) {
		all = append(all, int(s[i]))
	}
	return all
}

func cut(all []int) []string {
	lines := []string{""}
	for _, c := range all {
		if c == aSplit {
			lines = append(lines, "")
		} else {
			lines[len(lines)-1] += string([]byte{byte(c)})
		}
	}
	return lines
}

func second(a asking) answer {
	all, e := visited(a.p, a.line)
	if !a.all && len(all) > 0 {
		all, e = all[:1], api.OK
	}
	said, used, over, rest := verdict(a, len(all))
	if over {
		all, e = all[:len(said)], api.OK
	}
	out := row(a.line)
	splits := 0
	for n := len(all) - 1; n >= 0; n-- {
		if said[n] == 'y' {
			lines := expand.Lines(a.l, a.line, all[n])
			splits += len(lines) - 1
			out = slices.Replace(out, all[n].From, all[n].To, joined(lines)...)
		}
	}
	switch lines := cut(out); {
	case splits >= 2000:
		return answer{e: api.ErrLimit}
	case e != api.OK:
		return answer{e: e}
	case slices.ContainsFunc(lines, func(s string) bool { return len(s) > 1000 }):
		return answer{e: api.ErrLong}
	default:
		return answer{c: api.Change{Lines: lines, Many: strings.Count(said, "y"), Used: used, Over: over, All: rest}}
	}
}

func joined(lines []string) []int {
	all := row(lines[0])
	for _, line := range lines[1:] {
		all = append(append(all, aSplit), row(line)...)
	}
	return all
}

func checkSecond(t testing.TB, a asking) answer {
	t.Helper()
	want := second(a)
	is := asked(t, a)
	if !reflect.DeepEqual(is, want) {
		t.Errorf("%v: %.200q, want %.200q", a, is.told(), want.told())
	}
	return is
}

var patterns = []string{
	"a", "b", "ab", "", "a*", "b*", `a\+`, `a\=`, "^", "$", "^a", "a$", "^$", ".", "..", ".*", `.\{-}`, `a\{-1,2}`, "[^a]",
	`\v^|$`, `\va|$`, `\va+|b*`, `\v(a|b)*`, `\v(a*)(b*)`, `\v(.)\1`, `\v(a)|(b)`, `\v(a|)(b|)`, `\v|a`, `\va|`, `\c\va|B`,
	`\<`, `\>`, `\<.`, `.\>`, `a\zs`, `\zea`, `a\zsb`, `a\zeb`, `.\zs.`, `.\zs\ze.`, `a*\zs`, `a*\zeb*`, `\zeab\zs`, `\zsa\zsb`, `a\zs.*\zeb`,
	costly,
}

var replacements = []string{"", "-", "&", "<&>", `\r`, `&\r&`, `\1`, `[\1\2]`, `\u&b`, `\U&\r\1\E-`, `\r\r-`, "ab"}

// TestEachShortLine: all lines of up to five of three bytes, all patterns, some replacement, and answers of any kind.
func TestEachShortLine(t *testing.T) {
	rows := []string{"", "y", "n", "yny", "nyn", "nna", "yl", "nq", "yyyyyyyyy", "nnnnnnnnn", "ynynynyn", "ya", "l", "nn\x00"}
	count := 0
	for _, s := range patterns {
		p := read(t, s)
		var each func(line string)
		each = func(line string) {
			for k := range 4 {
				count++
				a := asking{p: p, l: tmpl.Parse(replacements[(count/4)%len(replacements)]), line: line, all: k&1 == 0, ask: k&2 == 0}
				a.answers = []byte(rows[(count/4+count)%len(rows)])
				checkSecond(t, a)
			}
			if len(line) == 5 {
				return
			}
			for _, c := range []string{"a", "b", " "} {
				each(line + c)
			}
		}
		each("")
	}
}

// Programs, pieces, lines and answers at random.

func someBytes(r *rand.Rand, size int, often string) string {
	s := make([]byte, r.Intn(size+1))
	for i := range s {
		s[i] = byte(r.Intn(256))
		if r.Intn(4) > 0 {
			s[i] = often[r.Intn(len(often))]
		}
	}
	return string(s)
}

// someProgram is one of any instructions, sometimes one that is not sound.
func someProgram(r *rand.Rand) api.Prog {
	p := api.Prog{Code: make([]api.Inst, r.Intn(8)+1), Rounds: r.Intn(4), Fold: r.Intn(2) == 0}
	for i := range p.Code {
		p.Code[i] = api.Inst{Op: uint8(r.Intn(14) + 1), C: "abAB"[r.Intn(4)], Set: api.Set{r.Uint64(), r.Uint64(), 1}, X: r.Intn(len(p.Code)), Y: r.Intn(len(p.Code))}
		if p.Code[i].Op == api.InSave {
			p.Code[i].X = []int{0, 1, 2, 3, 4, 5, 19, 20, 20, 20, 21, 21, 21}[r.Intn(13)]
		}
	}
	p.Code[len(p.Code)-1].Op = api.InMatch
	switch r.Intn(30) {
	case 0:
		p.Code[0].Op = uint8(r.Intn(256))
	case 1:
		p.Code[0].X = int(r.Uint64())
	case 2:
		p.Rounds = int(r.Uint64())
	}
	return p
}

func somePieces(r *rand.Rand) []api.Tm {
	l := make([]api.Tm, r.Intn(5))
	for i := range l {
		l[i] = api.Tm{Kind: uint8(r.Intn(6)), Text: someBytes(r, 3, "ab-"), N: r.Intn(13) - 1, C: "ulULE"[r.Intn(5)]}
	}
	return l
}

func TestAnyBytes(t *testing.T) {
	r := rand.New(rand.NewSource(9))
	seen := map[api.Errno]int{}
	for range 30000 {
		a := asking{p: someProgram(r), l: somePieces(r), line: someBytes(r, 12, "aAbB _-"), all: r.Intn(4) > 0, ask: r.Intn(2) == 0}
		if r.Intn(2) == 0 {
			a.p = read(t, patterns[r.Intn(len(patterns))])
		}
		a.answers = []byte(someBytes(r, 14, "yyyyynnnnnyyyyynnnnnal"))
		seen[checkSecond(t, a).e]++
	}
	for _, e := range []api.Errno{api.OK, api.ErrArg, api.ErrSteps} {
		if seen[e] < 300 {
			t.Errorf("of error %d there were only %d", e, seen[e])
		}
	}
}

// TestAnyLengths: lines and replacements whose bounds are near, above and below.
func TestAnyLengths(t *testing.T) {
	r := rand.New(rand.NewSource(10))
	seen := map[api.Errno]int{}
	for range 1000 {
		many := r.Intn(12) + 1
		lines, size := 0, 900/many+r.Intn(200/many+1)
		if r.Intn(2) == 0 {
			lines, size = 1990/many+r.Intn(20/many+2), r.Intn(2)*990
		}
		l := slices.Repeat([]api.Tm{{Kind: api.TmSplit}}, lines)
		l = slices.Insert(l, r.Intn(lines+1), api.Tm{Kind: api.TmText, Text: times("x", size)})
		line := times("ab", many) + times("c", r.Intn(20))
		if r.Intn(3) == 0 {
			line = strings.Replace(line, "b", endless, 1)
		}
		a := asking{p: read(t, []string{"a", "b", `\va|(x*)*y`}[r.Intn(3)]), l: l, line: line, all: r.Intn(5) > 0, ask: r.Intn(3) == 0}
		a.answers = []byte(someBytes(r, 14, "yyyyynal"))
		seen[checkSecond(t, a).e]++
	}
	for _, e := range []api.Errno{api.OK, api.ErrLong, api.ErrLimit, api.ErrSteps} {
		if seen[e] < 50 {
			t.Errorf("of error %d there were only %d", e, seen[e])
		}
	}
}

// TestReplacedByItself: what stands between matches stays, so each line is what it was if each match is put in its own place.
func TestReplacedByItself(t *testing.T) {
	r := rand.New(rand.NewSource(11))
	itself := []api.Tm{{Kind: api.TmGroup}}
	for range 10000 {
		a := asking{p: someProgram(r), l: itself, line: someBytes(r, 12, "aAbB _-"), all: r.Intn(4) > 0, ask: r.Intn(2) == 0}
		a.answers = []byte(someBytes(r, 14, "yyyyynnnnnyyyyynnnnnal"))
		if is := asked(t, a); is.e == api.OK && !slices.Equal(is.c.Lines, []string{a.line}) {
			t.Errorf("%v: %q", a, is.c.Lines)
		}
	}
}

// TestAgainstStrings: of plain letters all, or the first one, are as package strings replaces them.
func TestAgainstStrings(t *testing.T) {
	r := rand.New(rand.NewSource(12))
	for range 3000 {
		word := []string{"a", "b", "ab", "aa", "aba"}[r.Intn(5)]
		line, by := someBytes(r, 12, "ab"), someBytes(r, 3, "abc")
		l := []api.Tm{{Kind: api.TmText, Text: by}}
		many := strings.Count(line, word)
		check(t, asking{p: read(t, word), l: l, line: line, all: true}, fmt.Sprintf("%s, %d, 0", strings.ReplaceAll(line, word, by), many))
		check(t, asking{p: read(t, word), l: l, line: line}, fmt.Sprintf("%s, %d, 0", strings.Replace(line, word, by, 1), min(many, 1)))
	}
}

// TestAgainstRegexp: Go's regular expressions, too, pass over an empty match at the end of the one ahead.
func TestAgainstRegexp(t *testing.T) {
	for theirs, ours := range map[string]string{
		"": "", "a": "a", "a*": "a*", "a+": `a\+`, "a?": `a\=`, "a*?": `a\{-}`, "a|b*": `\va|b*`, "b*|a": `\vb*|a`, "(a*)(b?)": `\v(a*)(b=)`,
		"^": "^", "$": "$", "^|$": `\v^|$`, "a|$": `\va|$`, "^a*": "^a*", "a*$": "a*$", "[^a]*": "[^a]*", "..": "..", "(ab)*": `\v(ab)*`, "a{2}|b?": `\va{2}|b=`,
	} {
		re, p := regexp.MustCompile(theirs), read(t, ours)
		var each func(line string)
		each = func(line string) {
			many := 0
			want := re.ReplaceAllStringFunc(line, func(s string) string { many++; return "<" + s + ">" })
			check(t, asking{p: p, l: tmpl.Parse("<&>"), line: line, all: true}, fmt.Sprintf("%s, %d, 0", want, many))
			if len(line) == 5 {
				return
			}
			for _, c := range []string{"a", "b", "c"} {
				each(line + c)
			}
		}
		each("")
	}
}

func FuzzLine(f *testing.F) {
	f.Add("x*", "-", "axb", "yny", byte(0))
	f.Add(`\v(a|b)+\zs`, `\u\1\r`, "abab", "al", byte(3))
	f.Fuzz(func(t *testing.T, pattern, replacement, line, answers string, flags byte) {
		if p, ok := compiled(pattern); ok && len(line) < 3000 && len(replacement) < 3000 {
			checkSecond(t, asking{p: p, l: tmpl.Parse(replacement), line: line, all: flags&1 == 0, ask: flags&2 == 0, answers: []byte(answers)})
		}
	})
}
