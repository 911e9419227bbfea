package match_test

import (
	"math/rand"
	"regexp"
	"slices"
	"strconv"
	"strings"
	"testing"

	"emendator/api"
	"emendator/match"
	"emendator/prog"
)

// memo is one thing that a try remembers, ahead of all that it remembered till then: nothing is copied, and nothing taken back. Slots are told by their numbers, rounds by theirs and 100.
type memo struct {
	what, place int
	before      *memo
}

func (m *memo) of(what int) int {
	for ; m != nil; m = m.before {
		if m.what == what {
			return m.place
		}
	}
	if what >= 100 {
		return 0
	}
	return -1
}

// second tries a program a second time, in another way than the program does: a split is a call, which comes back if its first way fails.
type second struct {
	p    api.Prog
	line string
	left int
}

// ways is the end of the first match of all ways from an instruction on; -1: there is none; -2: there are too few steps.
func (x *second) ways(next, at int, m *memo) (int, *memo) {
	for ; ; next++ {
		if x.left == 0 {
			return -2, nil
		}
		x.left--
		i := x.p.Code[next]
		switch i.Op {
		case api.InMatch:
			return at, m
		case api.InSplit:
			if end, last := x.ways(i.X, at, m); end != -1 {
				return end, last
			}
			next = i.Y - 1
		case api.InJump:
			next = i.X - 1
		case api.InSave:
			m = &memo{i.X, at, m}
		case api.InStart:
			m = &memo{100 + i.X, at, m}
		default:
			step := x.step(i, at, m)
			if step < 0 {
				return -1, nil
			}
			at += step
		}
	}
}

// step is by how many bytes an instruction goes on; -1: it fails.
func (x *second) step(i api.Inst, at int, m *memo) int {
	ahead, behind := x.line[:at], x.line[at:]
	fails := false
	switch i.Op {
	case api.InByte, api.InAny, api.InSet:
		if behind == "" || !x.takes(i, behind[0]) {
			return -1
		}
		return 1
	case api.InBack:
		from, to := m.of(2*i.X), m.of(2*i.X+1)
		if from < 0 || to < 0 || from > to || !x.same(behind, x.line[from:to]) {
			return -1
		}
		return to - from
	case api.InBol:
		fails = ahead != ""
	case api.InEol:
		fails = behind != ""
	case api.InBow:
		fails = !wordFirst.MatchString(behind) || wordLast.MatchString(ahead)
	case api.InEow:
		fails = wordFirst.MatchString(behind) || !wordLast.MatchString(ahead)
	case api.InGone:
		fails = m.of(100+i.X) == at
	}
	if fails {
		return -1
	}
	return 0
}

var wordFirst, wordLast = regexp.MustCompile(`^[0-9A-Za-z_]`), regexp.MustCompile(`[0-9A-Za-z_]\z`)

func (x *second) takes(i api.Inst, c byte) bool {
	for d := range 256 {
		has := i.Op == api.InAny || i.Op == api.InByte && int(i.C) == d || i.Op == api.InSet && i.Set[d>>6]>>(d&63)&1 == 1
		if has && (int(c) == d || x.p.Fold && sameLetter(c, byte(d))) {
			return true
		}
	}
	return false
}

// same says whether a text begins with another one.
func (x *second) same(s, with string) bool {
	if len(s) < len(with) {
		return false
	}
	for i := range len(with) {
		if s[i] != with[i] && !(x.p.Fold && sameLetter(s[i], with[i])) {
			return false
		}
	}
	return true
}

func (x *second) at(at int) answer {
	end, m := x.ways(0, at, &memo{0, at, nil})
	switch end {
	case -1:
		return answer{left: x.left}
	case -2:
		return answer{e: api.ErrSteps}
	}
	a := answer{left: x.left, is: true}
	a.m.From, a.m.To = at, end
	if zs := m.of(20); zs >= 0 {
		a.m.From = zs
	}
	if ze := m.of(21); ze >= 0 {
		a.m.To = ze
	}
	if a.m.To < a.m.From {
		a.m.To = a.m.From
	}
	a.m.Begin[0], a.m.End[0] = a.m.From, a.m.To
	for n := 1; n <= 9; n++ {
		a.m.Begin[n], a.m.End[n] = m.of(2*n), m.of(2*n+1)
		if a.m.Begin[n] < 0 || a.m.End[n] < 0 || a.m.Begin[n] > a.m.End[n] {
			a.m.Begin[n], a.m.End[n] = -1, -1
		}
	}
	return a
}

func (x *second) from(from int) answer {
	for at := from; ; at++ {
		a := x.at(at)
		if a.is || a.e != api.OK || at == len(x.line) {
			return a
		}
	}
}

// compare holds both calls against the second ones.
func compare(t *testing.T, p api.Prog, line string, at, steps int) answer {
	t.Helper()
	want := (&second{p, line, steps}).at(at)
	if is := ask(t, match.At, p, line, at, steps); is != want {
		t.Errorf("At %q at %d with %d steps: %v, want %v\n%s", line, at, steps, is, want, text(p))
	}
	all := (&second{p, line, steps}).from(at)
	if is := ask(t, match.From, p, line, at, steps); is != all {
		t.Errorf("From %q at %d with %d steps: %v, want %v\n%s", line, at, steps, is, all, text(p))
	}
	return want
}

// anyLine is one of few bytes, so that something comes again in it.
func anyLine(r *rand.Rand, most int) string {
	line := make([]byte, r.Intn(most+1))
	for i := range line {
		line[i] = "aaabbAB_ -\xff"[r.Intn(11)]
	}
	return string(line)
}

// anyCode is a sound program of that many instructions.
func anyCode(r *rand.Rand, size int) api.Prog {
	p := api.Prog{Rounds: 1 + r.Intn(3), Fold: r.Intn(2) == 0}
	ops := []uint8{1, 1, 2, 2, 3, 4, 4, 4, 5, 6, 6, 6, 6, 7, 7, 8, 9, 10, 11, 12, 12, 13, 13, 14}
	for range size {
		i := api.Inst{Op: ops[r.Intn(len(ops))], C: "aAbB_"[r.Intn(5)], Set: setOf("abA_- "[r.Intn(4):][:1+r.Intn(2)])}
		switch i.Op {
		case api.InSplit, api.InJump:
			i.X, i.Y = r.Intn(size+1), r.Intn(size+1)
		case api.InSave:
			i.X = []int{0, 1, 2, 3, 2, 3, 4, 5, 18, 19, 20, 21}[r.Intn(12)]
		case api.InBack:
			i.X = []int{0, 1, 1, 2, 9}[r.Intn(5)]
		case api.InStart, api.InGone:
			i.X = r.Intn(p.Rounds)
		}
		p.Code = append(p.Code, i)
	}
	last := api.Inst{Op: api.InMatch}
	if r.Intn(4) == 0 {
		last = api.Inst{Op: api.InJump, X: r.Intn(size + 1)}
	}
	p.Code = append(p.Code, last)
	return p
}

// TestAnyCode: programs that no pattern makes, with few steps and with many. Most ways of them end soon; those that come far are counted.
func TestAnyCode(t *testing.T) {
	r := rand.New(rand.NewSource(5))
	found, none, few := 0, 0, 0
	for range 60000 {
		p := anyCode(r, r.Intn(14))
		line := anyLine(r, 8)
		steps := []int{r.Intn(12), r.Intn(60), r.Intn(60), r.Intn(400), 500}[r.Intn(5)]
		a := compare(t, p, line, r.Intn(len(line)+1), steps)
		switch {
		case a.e != api.OK:
			few++
		case a.is:
			found++
		default:
			none++
		}
	}
	if found < 5000 || none < 5000 || few < 5000 {
		t.Errorf("%d found, %d not, %d with too few steps: too few to tell", found, none, few)
	}
}

// TestAnyPatterns: as they are read, with each number of steps about what they take.
func TestAnyPatterns(t *testing.T) {
	parts := strings.Fields(`a b . * ~ ~* + = ? ( ) | (a) (a|b) (.) (|) (a*)* (a|ab)+ ((a)|b){,3} < > ^ $ \zs \ze \1 \1 \2 [a-c] \w \W {2} {-} {-1,} {,3} {-,3}`)
	r := rand.New(rand.NewSource(6))
	tried := 0
	for range 30000 {
		s := `\v`
		for range r.Intn(9) {
			s += parts[r.Intn(len(parts))]
		}
		p, ok := compiled(s)
		if !ok {
			continue
		}
		tried++
		p.Fold = r.Intn(3) == 0
		line := anyLine(r, 7)
		at := r.Intn(len(line) + 1)
		a := compare(t, p, line, at, 5000)
		for steps := 5000 - a.left; a.e == api.OK && steps >= max(0, 4998-a.left); steps-- {
			compare(t, p, line, at, steps)
		}
	}
	if tried < 1000 {
		t.Errorf("%d patterns, too few to tell", tried)
	}
}

// TestAnyNumbers: of programs that are made at random many are not sound; which ones, prog.Sound says, and no call panics, whatever line, place and steps.
func TestAnyNumbers(t *testing.T) {
	r := rand.New(rand.NewSource(8))
	sound := 0
	for range 40000 {
		p := anyCode(r, r.Intn(4))
		switch i := &p.Code[r.Intn(len(p.Code))]; r.Intn(5) {
		case 0:
			i.X = r.Intn(28) - 3
		case 1:
			i.Y = r.Intn(9) - 3
		case 2:
			i.Op = uint8(r.Intn(17))
		case 3:
			p.Rounds = r.Intn(4) - 1
		}
		line := anyLine(r, 3)
		at, steps := r.Intn(len(line)+4)-2, []int{-1, 0, 7, 300, 5001}[r.Intn(5)]
		if prog.Sound(p) && at >= 0 && at <= len(line) && steps >= 0 && steps <= 5000 {
			sound++
			compare(t, p, line, at, steps)
			continue
		}
		for name, call := range both {
			if a := ask(t, call, p, line, at, steps); a.e != api.ErrArg {
				t.Errorf("%s %q at %d with %d steps: %v\n%s", name, line, at, steps, a, text(p))
			}
		}
	}
	if sound < 1000 {
		t.Errorf("%d sound ones, too few to tell", sound)
	}
}

// plain makes a pattern without what only this program has: written as it reads it (very magic), and as Go's regexp does. What is repeated is never of nothing, of which the two think differently.
type plain struct {
	*rand.Rand
	groups int
}

// piece is a pattern in both ways of writing.
type piece struct{ own, other string }

func (x *plain) branches(size int) piece {
	all := x.branch(size)
	for range x.Intn(3) {
		next := x.branch(size)
		all.own += "|" + next.own
		all.other += "|" + next.other
	}
	return all
}

func (x *plain) branch(size int) piece {
	var all piece
	if x.Intn(12) == 0 {
		all = piece{"^", "^"}
	}
	for range 1 + x.Intn(3) {
		next := x.repeated(size)
		all.own += next.own
		all.other += next.other
	}
	// So no branch is of nothing, whatever its pieces are.
	end := []string{"a", "b", "A", "a", "b", "A", "a$", "b$"}[x.Intn(8)]
	return piece{all.own + end, all.other + end}
}

func (x *plain) repeated(size int) piece {
	p := x.one(size)
	times := []piece{{"", ""}, {"", ""}, {"", ""}, {"*", "*"}, {"+", "+"}, {"=", "?"}, {"{2}", "{2}"}, {"{1,3}", "{1,3}"}, {"{2,}", "{2,}"}, {"{-}", "*?"}, {"{-1,}", "+?"}, {"{-,2}", "{0,2}?"}, {"{-1,2}", "{1,2}?"}}[x.Intn(13)]
	return piece{p.own + times.own, p.other + times.other}
}

func (x *plain) one(size int) piece {
	if size > 1 && x.groups < 9 && x.Intn(2) == 0 {
		x.groups++
		p := x.branches(size / 2)
		return piece{"(" + p.own + ")", "(" + p.other + ")"}
	}
	return []piece{{"a", "a"}, {"b", "b"}, {"A", "A"}, {".", "."}, {"[ab]", "[ab]"}, {"[^a]", "[^a]"}, {`\w`, `\w`}, {"[a-b_]", "[a-b_]"}}[x.Intn(8)]
}

// index is a match as regexp tells it.
func index(m api.Match, groups int) []int {
	var all []int
	for n := range groups + 1 {
		all = append(all, m.Begin[n], m.End[n])
	}
	return all
}

// TestAgainstRegexp: the first of all ways, at the least place, with its groups, is the one that Go's library finds (by another way of trying, without going back).
func TestAgainstRegexp(t *testing.T) {
	r := rand.New(rand.NewSource(9))
	found, none := 0, 0
	for range 8000 {
		x := &plain{Rand: r}
		both := x.branches(5)
		p, ok := compiled(`\v` + both.own)
		if !ok {
			continue
		}
		flags := "(?s)"
		if x.Intn(3) == 0 && !strings.Contains(both.own, "^a") {
			p.Fold = true
			flags = "(?si)"
		}
		want := regexp.MustCompile(flags + both.other)
		for range 4 {
			line := strings.ReplaceAll(anyLine(r, 9), "\xff", ".")
			a := ask(t, match.From, p, line, 0, 5000)
			w := want.FindStringSubmatchIndex(line)
			switch {
			case a.e == api.ErrSteps:
			case a.is && w != nil && slices.Equal(index(a.m, want.NumSubexp()), w):
				found++
			case !a.is && w == nil:
				none++
			default:
				t.Errorf("%s on %q: %s, want %v", strconv.Quote(both.own), line, a.told(5000), w)
			}
		}
	}
	if found < 5000 || none < 1000 {
		t.Errorf("%d found, %d not: too few to tell", found, none)
	}
}
