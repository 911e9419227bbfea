package expand_test

import (
	"math"
	"math/rand"
	"slices"
	"strings"
	"testing"

	"emendator/api"
)

// The chapter's sentences again, of another make: all pieces as a row of bytes and marks, in which each byte looks back for what was said of it.

const (
	aByte = iota
	aSplit
	aCase
)

type event struct {
	what int
	c    byte
}

func events(l []api.Tm, line string, m api.Match) []event {
	var row []event
	add := func(what int, s string) {
		for i := range len(s) {
			row = append(row, event{what, s[i]})
		}
	}
	for _, piece := range l {
		switch piece.Kind {
		case 1:
			add(aByte, piece.Text)
		case 2:
			for at := range len(line) {
				if n := piece.N; 0 <= n && n <= 9 && 0 <= m.Begin[n] && m.End[n] <= len(line) && m.Begin[n] <= at && at < m.End[n] {
					add(aByte, line[at:at+1])
				}
			}
		case 3:
			add(aSplit, "-")
		case 4:
			add(aCase, string([]byte{piece.C}))
		}
	}
	return row
}

// said is the C of the case that holds for the byte that stands behind a row; 0: none does.
func said(row []event) byte {
	next := true
	for i := len(row) - 1; i >= 0; i-- {
		switch e := row[i]; {
		case e.what == aByte:
			next = false
		case e.what == aCase && (next || e.c != 'u' && e.c != 'l'):
			return e.c
		}
	}
	return 0
}

const (
	smallOnes = "abcdefghijklmnopqrstuvwxyz"
	greatOnes = "ABCDEFGHIJKLMNOPQRSTUVWXYZ"
)

func inCase(c, said byte) byte {
	from, to := "", ""
	switch said {
	case 'u', 'U':
		from, to = smallOnes, greatOnes
	case 'l', 'L':
		from, to = greatOnes, smallOnes
	}
	if at := strings.IndexByte(from, c); at >= 0 {
		return to[at]
	}
	return c
}

func secondLines(l []api.Tm, line string, m api.Match) []string {
	row := events(l, line, m)
	all := []string{""}
	for i, e := range row {
		switch e.what {
		case aByte:
			all[len(all)-1] += string([]byte{inCase(e.c, said(row[:i]))})
		case aSplit:
			all = append(all, "")
		}
	}
	return all
}

func checkSecond(t testing.TB, l []api.Tm, line string, m api.Match) {
	t.Helper()
	check(t, l, line, m, secondLines(l, line, m)...)
}

// TestEachShortList: all lists of up to five of pieces of each kind.
func TestEachShortList(t *testing.T) {
	some := pieces(text("aB"), text(""), group(0), group(1), split(),
		casing('u'), casing('l'), casing('U'), casing('L'), casing('E'), api.Tm{Kind: 5, Text: "x", N: 0, C: 'u'})
	m := remembering(0, 3)
	var each func(l []api.Tm)
	each = func(l []api.Tm) {
		checkSecond(t, l, "Ab-", m)
		if len(l) == 5 {
			return
		}
		for _, piece := range some {
			each(append(slices.Clone(l), piece))
		}
	}
	each(nil)
}

// Numbers, bytes and pieces at random: such as mean something half of the time, any at all else.

func someNumber(r *rand.Rand, size int) int {
	switch r.Intn(20) {
	case 0:
		return math.MinInt + r.Intn(3)
	case 1:
		return math.MaxInt - r.Intn(3)
	case 2:
		return int(r.Uint64())
	case 3, 4:
		return r.Intn(size+7) - 3
	}
	return r.Intn(size + 1)
}

func someText(r *rand.Rand, size int) string {
	s := make([]byte, r.Intn(size+1))
	for i := range s {
		s[i] = byte(r.Intn(256))
		if r.Intn(2) == 0 {
			s[i] = "aBcDzZ@[`{-"[r.Intn(11)]
		}
	}
	return string(s)
}

func somePiece(r *rand.Rand) api.Tm {
	piece := api.Tm{Kind: uint8(1 + r.Intn(4)), Text: someText(r, 4), N: someNumber(r, 9), C: "ulULE"[r.Intn(5)]}
	if r.Intn(10) == 0 {
		piece.Kind = uint8(r.Intn(256))
	}
	if r.Intn(10) == 0 {
		piece.C = byte(r.Intn(256))
	}
	return piece
}

func someMatch(r *rand.Rand, size int) api.Match {
	m := api.Match{From: someNumber(r, size), To: someNumber(r, size)}
	for n := range m.Begin {
		m.Begin[n], m.End[n] = someNumber(r, size), someNumber(r, size)
	}
	return m
}

func TestAnyPieces(t *testing.T) {
	r := rand.New(rand.NewSource(8))
	for range 50000 {
		l := make([]api.Tm, r.Intn(14))
		for i := range l {
			l[i] = somePiece(r)
		}
		line := someText(r, 12)
		checkSecond(t, l, line, someMatch(r, len(line)))
	}
}

// FuzzLines: each three bytes of what are a piece: its kind, its number, its case; its text are up to five bytes behind it.
func FuzzLines(f *testing.F) {
	f.Add([]byte("\x04\x00u\x02\x00 \x01\x00 "), "ab", 0, 2)
	f.Add([]byte("\x02\x09U\x03\x00 \x02\xffl"), "", -1, 1)
	f.Fuzz(func(t *testing.T, what []byte, line string, begin, end int) {
		if len(what) > 300 || len(line) > 300 {
			return
		}
		var l []api.Tm
		for ; len(what) >= 3; what = what[3:] {
			l = append(l, api.Tm{Kind: what[0] % 6, Text: string(what[3:min(len(what), 8)]), N: int(int8(what[1])), C: what[2]})
		}
		m := remembering(begin, end, end, begin)
		for n := 2; n < len(m.Begin); n++ {
			m.Begin[n], m.End[n] = begin+n, end-n
		}
		checkSecond(t, l, line, m)
	})
}
