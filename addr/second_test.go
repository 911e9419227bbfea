package addr_test

import (
	"fmt"
	"math"
	"math/rand"
	"regexp"
	"slices"
	"strconv"
	"strings"
	"testing"

	"emendator/api"
	"emendator/buf"
	"emendator/find"
	"emendator/pat"
	"emendator/prog"
)

// The chapter's sentences again, of another make: a text is read by regular expressions, of runes that are bytes and one behind them that is its end; lines are looked for in a list of their numbers. (What a pattern is, and whether it fits in a line, is taken from layers 3, 4 and 6.)

// over is what stands behind the last byte.
const over = "Ω"

// latin are bytes as runes, so that a regular expression takes each for one; plain is the other way round.
func latin(s string) string {
	var all []rune
	for i := range len(s) {
		all = append(all, rune(s[i]))
	}
	return string(all)
}

func plain(s string) string {
	var all []byte
	for _, c := range s {
		all = append(all, byte(c))
	}
	return string(all)
}

func runes(s string) int { return len([]rune(s)) }

// upTo is the expression of what stands up to a sign.
func upTo(sign byte) string {
	return fmt.Sprintf(`((?:\\[^Ω]|[^\\\x{%02x}Ω]|\\)*)\x{%02x}?`, sign, sign)
}

// withoutSign takes the backslashes away that stand ahead of a sign and belong to it.
func withoutSign(s string, sign byte) string {
	return plain(regexp.MustCompile(`\\(?s:.)`).ReplaceAllStringFunc(s, func(two string) string {
		if two == `\`+string(rune(sign)) {
			return string(rune(sign))
		}
		return two
	}))
}

func secondSplit(s string, at int, sign byte) (string, int) {
	at = min(max(at, 0), len(s))
	m := regexp.MustCompile(`\A` + upTo(sign)).FindStringSubmatch(latin(s[at:]) + over)
	return withoutSign(m[1], sign), at + runes(m[0])
}

// one is an address with what stands ahead and behind up to the next: blanks, a number, a sign, a mark, a pattern this way or that, offsets, a sign between.
var one = regexp.MustCompile(`\A[ \t]*(?:([0-9]+)|([.$])|'((?s:.))|/` + upTo('/') + `|\?` + upTo('?') + `)?((?:[+-][0-9]*)*)[ \t]*([,;]?)[ \t]*`)

var offsets = regexp.MustCompile(`[+-][0-9]*`)

// number is what digits say; false: there are too many.
func number(digits string) (int, bool) {
	n, err := strconv.ParseInt(digits, 10, 64)
	return int(n), err == nil && len(strings.TrimLeft(digits, "+-")) <= 9
}

// built is the address that was found.
func built(m []string) (a api.Addr, ok bool) {
	ok = true
	switch {
	case m[1] != "":
		a.Kind = 1
		a.N, ok = number(m[1])
	case m[2] == ".":
		a.Kind = 2
	case m[2] == "$":
		a.Kind = 3
	case m[3] == over:
		return a, false
	case m[3] != "":
		a.Kind, a.C = 4, plain(m[3])[0]
	case strings.HasPrefix(strings.TrimLeft(m[0], " \t"), "/"):
		a.Kind, a.Pat = 5, withoutSign(m[4], '/')
	case strings.HasPrefix(strings.TrimLeft(m[0], " \t"), "?"):
		a.Kind, a.Pat = 6, withoutSign(m[5], '?')
	default:
		a.Kind = 2
	}
	for _, s := range offsets.FindAllString(m[6], -1) {
		if len(s) == 1 {
			s += "1"
		}
		n, few := number(s)
		ok = ok && few
		a.Off += n
	}
	a.Semi = m[7] == ";"
	return a, ok
}

func secondParse(s string) ([]api.Addr, int, api.Errno) {
	rest := strings.TrimLeft(latin(s)+over, " \t:")
	if behind, is := strings.CutPrefix(rest, "%"); is {
		rest = strings.TrimLeft(behind, " \t")
		return []api.Addr{{Kind: 1, N: 1}, {Kind: 3}}, len(s) + 1 - runes(rest), 0
	}
	if m := one.FindString(rest); strings.Trim(m, " \t") == "" {
		return nil, len(s) + 1 - runes(rest[len(m):]), 0
	}
	var all []api.Addr
	for {
		m := one.FindStringSubmatch(rest)
		a, ok := built(m)
		if !ok {
			return nil, 0, 141
		}
		all = append(all, a)
		rest = rest[len(m[0]):]
		if m[7] == "" {
			return all, len(s) + 1 - runes(rest), 0
		}
	}
}

// numbers are from one to another, rising or falling.
func numbers(from, to int) []int {
	var all []int
	if from > to {
		return all
	}
	for n := from; n <= to; n++ {
		all = append(all, n)
	}
	return all
}

func falling(from, to int) []int {
	all := numbers(to, from)
	slices.Reverse(all)
	return all
}

// secondFind is the line in which a pattern fits: behind here, from 1 up to it; or ahead of it, from the end down to it.
func secondFind(lines []string, s, tilde string, fold bool, here int, back bool) (int, api.Errno) {
	nodes, e, _ := pat.Parse(s, tilde)
	if e != 0 {
		return 0, e
	}
	p, e := prog.Compile(nodes, fold)
	if e != 0 {
		return 0, e
	}
	order := append(numbers(here+1, len(lines)), numbers(1, here)...)
	if back {
		order = append(falling(here-1, 1), falling(len(lines), here)...)
	}
	for _, n := range order {
		if is, e := find.Fits(p, lines[n-1]); e != 0 || is {
			return n * int(1-min(e, 1)), e
		}
	}
	return 0, 60
}

// secondLines are the lines of all addresses, and the last pattern.
func secondLines(lines []string, cursor int, marks map[byte]int, l []api.Addr, w worded) ([]int, string, api.Errno) {
	var all []int
	here, last := cursor, w.last
	for _, a := range l {
		n, e := 0, api.OK
		switch a.Kind {
		case 1:
			n = a.N
		case 2:
			n = here
		case 3:
			n = len(lines)
		case 4:
			if n = marks[a.C]; n == 0 {
				return nil, "", 100
			}
		case 5, 6:
			if a.Pat != "" {
				last = a.Pat
			}
			if last == "" {
				return nil, "", 60
			}
			if n, e = secondFind(lines, last, w.tilde, w.fold, here, a.Kind == 6); e != 0 {
				return nil, "", e
			}
		default:
			return nil, "", 140
		}
		n = int(uint64(n) + uint64(a.Off))
		if !slices.Contains(append(numbers(1, len(lines)), 0), n) {
			return nil, "", 140
		}
		if a.Semi && n == 0 {
			here = 1
		} else if a.Semi {
			here = n
		}
		all = append(all, n)
	}
	return all, last, 0
}

func secondEval(lines []string, cursor int, marks map[byte]int, l []api.Addr, w worded) string {
	all, last, e := secondLines(lines, cursor, marks, l, w)
	if e != 0 {
		return refused(e)
	}
	switch len(all) {
	case 0:
		all = []int{cursor, cursor}
	case 1:
		all = append(all, all[0])
	}
	all = all[len(all)-2:]
	if all[0] > all[1] {
		return refused(140)
	}
	return told(all[0], all[1], last)
}

func sameParse(t testing.TB, s string) {
	t.Helper()
	l, at, e := parse(t, s)
	if want, place, f := secondParse(s); e != f || at != place || !slices.Equal(l, want) {
		t.Fatalf("Parse of %.300q: %s, %d, error %d, want %s, %d, error %d", s, shown(l), at, e, shown(want), place, f)
	}
}

func sameSplit(t testing.TB, s string, at int, sign byte) {
	t.Helper()
	is, p := split(t, s, at, sign)
	if want, place := secondSplit(s, at, sign); is != want || p != place {
		t.Fatalf("Split of %.300q, %d, %q: %.300q, %d, want %.300q, %d", s, at, sign, is, p, want, place)
	}
}

func sameEval(t testing.TB, b *buf.Buf, l []api.Addr, w worded) {
	t.Helper()
	marks := map[byte]int{}
	for _, m := range b.Marks().All() {
		marks[m.Name] = m.Line
	}
	is := eval(t, b, l, w)
	if want := secondEval(b.Lines(), b.Cursor(), marks, l, w); is != want {
		t.Fatalf("Eval of %s, %+.300v, of %.600s: %.300s, want %.300s", shown(l), w, seen(b), is, want)
	}
}

// each hands out all texts of up to so many of these parts.
func each(parts []string, most int, do func(s string)) {
	do("")
	if most == 0 {
		return
	}
	for _, part := range parts {
		each(parts, most-1, func(s string) { do(part + s) })
	}
}

// TestSecondSplitOfEachText: all short texts of backslashes, signs and another byte, from each place.
func TestSecondSplitOfEachText(t *testing.T) {
	each([]string{`\`, "/", "?", "x"}, 5, func(s string) {
		for at := -1; at <= len(s)+1; at++ {
			for _, sign := range []byte(`/?\x`) {
				sameSplit(t, s, at, sign)
			}
		}
	})
}

// TestSecondParseOfEachText: all short texts of the bytes that say something, and of one that does not.
func TestSecondParseOfEachText(t *testing.T) {
	var parts []string
	for _, c := range `1.$'/?\+-,; :%x` {
		parts = append(parts, string(c))
	}
	each(parts, 4, func(s string) { sameParse(t, s) })
	each([]string{"12", "/", `\`, "+", ";", "\t", "1234567890", "'"}, 5, func(s string) { sameParse(t, s) })
}

// TestSecondEvalOfEachRow: all rows of up to three addresses of all kinds, from each line.
func TestSecondEvalOfEachRow(t *testing.T) {
	var kinds []api.Addr
	for _, a := range []api.Addr{line(0), line(1), line(3), line(4), dot(), off(dot(), 1), off(dot(), -1), end(), mark('m'), mark('n'), fore("b"), back(""), off(fore("c"), -2), {}} {
		kinds = append(kinds, a, semi(a))
	}
	for cursor := 1; cursor <= 3; cursor++ {
		b := text(t, "b/a/b", cursor)
		set(t, b, 'm', 2)
		for _, x := range kinds {
			sameEval(t, b, []api.Addr{x}, worded{})
			for _, y := range kinds {
				sameEval(t, b, []api.Addr{x, y}, worded{last: "a"})
				if cursor == 2 {
					for _, z := range kinds {
						sameEval(t, b, []api.Addr{x, y, z}, worded{})
					}
				}
			}
		}
	}
}

// someText is of parts that say something, and now and then of any bytes.
func someText(r *rand.Rand) string {
	parts := []string{"1", "0", "3", "12", "007", "999999999", "1234567890", ".", "$", "'a", "'m", "'", "''", "'\xff", "/b/", "/a", "?b?", "?a", "//", "??", `/\//`, `/\`, `?\??`, `/[b]/`, `/\(b/`,
		"+", "-", "+2", "-1", "+999999999", "-0000000001", ",", ",", ",", ";", ";", ";", " ", "\t", ":", "%", "d", `\`, "\x00", "\n"}
	var all []byte
	for range r.Intn(9) {
		all = append(all, parts[r.Intn(len(parts))]...)
		if r.Intn(10) == 0 {
			all = append(all, byte(r.Intn(256)))
		}
	}
	return string(all)
}

func anyBytes(r *rand.Rand, most int) string {
	all := make([]byte, r.Intn(most+1))
	for i := range all {
		all[i] = byte(r.Intn(256))
	}
	return string(all)
}

// TestSecondTextsAtRandom: of parts, and of any bytes.
func TestSecondTextsAtRandom(t *testing.T) {
	r := rand.New(rand.NewSource(14))
	for range 60000 {
		s := someText(r)
		if r.Intn(4) == 0 {
			s = anyBytes(r, 12)
		}
		sameParse(t, s)
		sign := byte(r.Intn(256))
		if len(s) > 0 && r.Intn(2) == 0 {
			sign = s[r.Intn(len(s))]
		}
		sameSplit(t, s, r.Intn(len(s)+5)-2, sign)
	}
}

// someNumber is mostly near the lines that there are, now and then far from them.
func someNumber(r *rand.Rand, size int) int {
	switch r.Intn(20) {
	case 0:
		return math.MinInt + r.Intn(3)
	case 1:
		return math.MaxInt - r.Intn(3)
	case 2:
		return int(r.Uint64())
	}
	return r.Intn(size+4) - 2
}

func somePattern(r *rand.Rand) string {
	parts := []string{"", "a", "b", "^a", "b$", "~", "[ab]", `\(.\)\1`, `\ca`, `\Cb`, "a*b", `\(`, `\y`, `\+`, "z", costly, aBig}
	switch r.Intn(12) {
	case 0:
		return anyBytes(r, 6)
	case 1:
		return longPattern()
	}
	return parts[r.Intn(len(parts))]
}

// someAddress is any one, its kind mostly one that there is; all its fields say something.
func someAddress(r *rand.Rand, size int) api.Addr {
	a := api.Addr{Kind: uint8(1 + r.Intn(6)), N: someNumber(r, size), C: "abzA'"[r.Intn(5)], Pat: somePattern(r), Semi: r.Intn(2) == 0}
	switch r.Intn(40) {
	case 0:
		a.Kind = uint8(r.Intn(256))
	case 1:
		a.C = byte(r.Intn(256))
	}
	switch r.Intn(6) {
	case 0:
		a.Off = someNumber(r, size)
	case 1, 2:
		a.Off = r.Intn(5) - 2
	}
	return a
}

// someBuf is a text of any lines, in which there are changes, states and marks.
func someBuf(t testing.TB, r *rand.Rand) *buf.Buf {
	lines := []string{"a", "b", "ab", "ba", "aa", "", "B", "A", endless, "\x00\xff"}
	some := func() []string {
		var all []string
		for range r.Intn(6) {
			all = append(all, lines[r.Intn(len(lines))])
		}
		return all
	}
	b := textOf(t, some(), 1)
	for range r.Intn(3) {
		b.Splice(1+r.Intn(b.Len()+1), 0, some())
		if r.Intn(2) == 0 {
			b.Commit()
		}
	}
	for range r.Intn(4) {
		set(t, b, "abz"[r.Intn(3)], 1+r.Intn(b.Len()+2))
	}
	b.Put(1 + r.Intn(b.Len()))
	return b
}

// TestSecondEvalAtRandom: any addresses, of any texts, and what else patterns are read with.
func TestSecondEvalAtRandom(t *testing.T) {
	r := rand.New(rand.NewSource(140))
	for range 1500 {
		b := someBuf(t, r)
		for range 12 {
			var l []api.Addr
			for range r.Intn(5) {
				l = append(l, someAddress(r, b.Len()))
			}
			tilde := []string{"", "b", "aa", "\x00\xff", longTilde()}[r.Intn(5)]
			sameEval(t, b, l, worded{somePattern(r), tilde, r.Intn(2) == 0})
		}
		for range 6 {
			if l, _, e := parse(t, someText(r)); e == api.OK {
				sameEval(t, b, l, worded{last: somePattern(r)})
			}
		}
	}
}

// FuzzAny: any texts as addresses, and what they are in a text of any lines.
func FuzzAny(f *testing.F) {
	f.Add("2,$-1d", 0, byte('/'), "a\nb\nc", "", "", 2)
	f.Add(": /a\\/b/;+3,'m", 3, byte('?'), "a/b\n\nx", "x", "~", 1)
	f.Add("%", -1, byte('\\'), "", "\\(", "\x00", 0)
	f.Add("?~?;//-1234567890", 99, byte(0), "\xff", "a", "\xff", 5)
	f.Fuzz(func(t *testing.T, s string, at int, sign byte, lines, last, tilde string, cursor int) {
		if len(s)+len(lines)+len(last)+len(tilde) > 4000 {
			t.Skip()
		}
		sameParse(t, s)
		sameSplit(t, s, at, sign)
		b, e := buf.New(strings.Split(lines, "\n"), 3)
		if e != api.OK {
			t.Skip()
		}
		b.Put(cursor)
		set(t, b, 'm', 1+int(sign)%3)
		l, _, _ := parse(t, s)
		sameEval(t, b, l, worded{last, tilde, cursor%2 == 0})
		is, _, _ := compile(t, s, last, tilde, false)
		if !prog.Sound(is) && len(is.Code) > 0 {
			t.Fatalf("Compile of %q is not sound", s)
		}
	})
}
