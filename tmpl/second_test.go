package tmpl_test

import (
	"math/rand"
	"regexp"
	"slices"
	"strings"
	"testing"

	"emendator/api"
)

// The chapter's sentences again, of another make: a text's bytes as runes, parted by a regular expression, and each part looked up.

func widen(s string) string {
	var b strings.Builder
	for i := range len(s) {
		b.WriteRune(rune(s[i]))
	}
	return b.String()
}

func narrow(s string) string {
	var b []byte
	for _, r := range s {
		b = append(b, byte(r))
	}
	return string(b)
}

var parts = regexp.MustCompile(`(?s)\\.|.`)

func secondResolve(s, last string) string {
	return narrow(parts.ReplaceAllStringFunc(widen(s), func(part string) string {
		switch part {
		case `\~`:
			return `~`
		case `~`:
			return widen(last)
		}
		return part
	}))
}

var written = map[string]api.Tm{
	`&`: group(0), `\0`: group(0), `\1`: group(1), `\2`: group(2), `\3`: group(3), `\4`: group(4),
	`\5`: group(5), `\6`: group(6), `\7`: group(7), `\8`: group(8), `\9`: group(9),
	`\r`: split(), `\u`: casing('u'), `\l`: casing('l'), `\U`: casing('U'), `\L`: casing('L'), `\e`: casing('E'), `\E`: casing('E'),
	`\n`: text("\x00"), `\t`: text("\x09"), `\`: text(`\`),
}

func secondParse(s string) []api.Tm {
	var all []api.Tm
	for _, part := range parts.FindAllString(widen(s), -1) {
		piece, is := written[part]
		if !is {
			piece = text(narrow(strings.TrimPrefix(part, `\`)))
		}
		if last := len(all) - 1; last >= 0 && piece.Kind == api.TmText && all[last].Kind == api.TmText {
			all[last].Text += piece.Text
			continue
		}
		all = append(all, piece)
	}
	return all
}

func checkBoth(t *testing.T, s, last string) {
	t.Helper()
	checkResolve(t, s, last, secondResolve(s, last))
	checkParse(t, s, secondParse(s)...)
}

// TestEachShortText: all texts of up to four of the bytes that mean something, and of others.
func TestEachShortText(t *testing.T) {
	signs := []byte("\\~&09ruLeEntaN\x00\xff")
	var each func(s []byte)
	each = func(s []byte) {
		checkBoth(t, string(s), `\~`)
		if len(s) == 4 {
			return
		}
		for _, c := range signs {
			each(append(slices.Clone(s), c))
		}
	}
	each(nil)
}

// TestEachPair: all texts of two bytes, with a backslash ahead and without.
func TestEachPair(t *testing.T) {
	for a := range 256 {
		for b := range 256 {
			s := string([]byte{byte(a), byte(b)})
			checkBoth(t, s, "x")
			checkBoth(t, `\`+s, "x")
		}
	}
}

// TestEachLast: all short texts as what there was last.
func TestEachLast(t *testing.T) {
	for _, s := range []string{`~`, `\~`, `\\~`, `~~`, `a~\~b~\`} {
		for a := range 256 {
			for _, b := range []string{"", `\`, `~`, `&`, "x"} {
				last := string([]byte{byte(a)}) + b
				checkResolve(t, s, last, secondResolve(s, last))
			}
		}
	}
}

func someText(r *rand.Rand) string {
	s := make([]byte, r.Intn(60))
	for i := range s {
		s[i] = byte(r.Intn(256))
		if r.Intn(2) == 0 {
			s[i] = `\\\~~&019rulULeEntx`[r.Intn(19)]
		}
	}
	return string(s)
}

func TestAnyBytes(t *testing.T) {
	r := rand.New(rand.NewSource(7))
	for range 20000 {
		checkBoth(t, someText(r), someText(r))
	}
}

func FuzzBoth(f *testing.F) {
	f.Add(`x~\~`, `&`)
	f.Add(`a\u&\r\`, `\~`)
	f.Fuzz(checkBoth)
}
