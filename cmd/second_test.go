package cmd_test

import (
	"fmt"
	"math/rand"
	"regexp"
	"slices"
	"strconv"
	"strings"
	"testing"

	"emendator/addr"
	"emendator/api"
	"emendator/cmd"
)

// The chapter's sentences again, of another make: what stands behind the range is held against a regular expression of each name, of runes that are bytes. (What a range is, is taken from layer 14.)

// latin are bytes as runes, so that a regular expression takes each for one; plain is the other way round.
func latin(s string) string {
	var all []rune
	for i := range len(s) {
		all = append(all, rune(s[i]))
	}
	return string(all)
}

func plain(s string) string {
	var all []byte
	for _, c := range s {
		all = append(all, byte(c))
	}
	return string(all)
}

// wordsOf are the chapter's words, the long one first where one begins another, each with the short name.
const wordsOf = "delete:d d:d move:m copy:t co:t t:t join:j j:j yank:y y:y put:pu pu:pu print:p p:p mark:k m:m k:k substitute:s s:s global:g g:g vglobal:v v:v normal:norm norm:norm undo:u u:u redo:red red:red earlier:earlier later:later"

// nameOf is the short name of what a text begins with, and what stands behind it.
func nameOf(s string) (string, string, bool) {
	all := strings.Fields(wordsOf)
	slices.SortFunc(all, func(a, b string) int { return strings.Index(b, ":") - strings.Index(a, ":") })
	for _, one := range all {
		word, name, _ := strings.Cut(one, ":")
		if rest, is := strings.CutPrefix(s, word); is {
			return name, rest, true
		}
	}
	for _, sign := range []string{"&&", "&", "~", "@", "=", ">", "<"} {
		if rest, is := strings.CutPrefix(s, sign); is {
			return sign, rest, true
		}
	}
	return "", "", false
}

const (
	blanks   = `[ \t]*`
	bold     = `(?P<bang>!?)`
	register = blanks + `(?P<reg>[^0-9 \t])?`
	count    = blanks + `(?P<count>[0-9]{1,9})?`
	flagged  = blanks + `(?P<flags>[&cegiIn]*)` + count
	signed   = blanks + `(?P<sign>[^A-Za-z0-9 \t"|\\&#!])`
)

// upTo is the expression of what stands up to a sign, or to the end.
func upTo(name string, sign string) string {
	return fmt.Sprintf(`(?P<%s>(?:\\(?s:.)|[^\\\x{%02x}])*(?:\\\z)?)(?:\x{%02x}|\z)`, name, []rune(sign)[0], []rune(sign)[0])
}

// follow is the expression of what may stand behind a name.
func follow(name, rest string) string {
	switch name {
	case "d", "y":
		return bold + register + count
	case "pu":
		return bold + register
	case "@":
		return register
	case "j", "u":
		return bold + count
	case "p", "=", "earlier", "later":
		return count
	case ">", "<":
		return `(?P<arg>` + name + `*)` + count
	case "red":
		return ``
	case "k":
		return blanks + `(?P<reg>[^ \t])`
	case "m", "t":
		return `(?P<dest>(?s:.*))`
	case "norm":
		return bold + `[ \t]?(?P<arg>(?s:.*))`
	case "g":
		return visited(bold+signed, rest)
	case "v":
		return visited(signed, rest)
	case "s":
		if m := found(signed, rest); m != nil {
			return signed + upTo("pat", m["sign"]) + upTo("rep", m["sign"]) + flagged
		}
	}
	return flagged
}

// visited is the expression of a pattern and all that stands behind it; of nothing, if there is no sign.
func visited(head, rest string) string {
	m := found(head, rest)
	if m == nil {
		return `[^\x00-\xff]`
	}
	return head + upTo("pat", m["sign"]) + `(?P<arg>(?s:.*))`
}

// expressions are those that were made before.
var expressions = map[string]*regexp.Regexp{}

// found is what an expression finds at a text's beginning, by its names; nil: nothing.
func found(expression, s string) map[string]string {
	e := expressions[expression]
	if e == nil {
		e = regexp.MustCompile(`\A` + expression)
		expressions[expression] = e
	}
	m := e.FindStringSubmatch(s)
	if m == nil {
		return nil
	}
	by := map[string]string{}
	for i, name := range e.SubexpNames() {
		if name != "" {
			by[name] = m[i]
		}
	}
	return by
}

// withoutSign takes the backslashes away that stand ahead of a sign and belong to it.
func withoutSign(s, sign string) string {
	return plain(regexp.MustCompile(`\\(?s:.)`).ReplaceAllStringFunc(s, func(two string) string {
		if two == `\`+sign {
			return sign
		}
		return two
	}))
}

// secondDest is where something goes, and an error if it is not one place.
func secondDest(s string) ([]api.Addr, api.Errno) {
	l, at, e := addr.Parse(s)
	switch {
	case e != 0:
		return nil, e
	case len(l) != 1:
		return nil, 141
	case strings.Trim(s[at:], " \t") != "":
		return nil, 151
	}
	return l, 0
}

// secondFollow fills a command with what stands behind its name.
func secondFollow(c *api.Cmd, rest string) api.Errno {
	m := found(follow(c.Name, rest)+blanks+`\z`, rest)
	if m == nil && (c.Name == "g" || c.Name == "v") {
		return 150
	}
	if m == nil {
		return 151
	}
	var e api.Errno
	if c.Name == "m" || c.Name == "t" {
		c.Dest, e = secondDest(plain(m["dest"]))
	}
	c.Bang = m["bang"] == "!"
	if m["reg"] != "" {
		c.Reg = plain(m["reg"])[0]
	}
	if m["count"] != "" {
		c.Count, _ = strconv.Atoi(m["count"])
	}
	c.Flags, c.Arg = m["flags"], plain(m["arg"])
	c.Pat, c.Rep = withoutSign(m["pat"], m["sign"]), withoutSign(m["rep"], m["sign"])
	switch {
	case c.Name == "s" && m["sign"] != "":
		c.Arg = "="
	case c.Name == ">" || c.Name == "<":
		c.Arg = c.Name + c.Arg
	case (c.Name == "g" || c.Name == "v") && c.Arg == "":
		c.Arg = "p"
	case c.Name == "norm" && c.Arg == "":
		e = 151
	}
	return e
}

func secondParse(s string) (api.Cmd, api.Errno) {
	if len(s) >= 1001 {
		return api.Cmd{}, 3
	}
	l, at, e := addr.Parse(s)
	if e != 0 {
		return api.Cmd{}, e
	}
	c := api.Cmd{Range: l, Count: -1}
	if at == len(s) {
		return c, 0
	}
	name, rest, is := nameOf(latin(s[at:]))
	if !is {
		return api.Cmd{}, 150
	}
	c.Name = name
	if e := secondFollow(&c, rest); e != 0 {
		return api.Cmd{}, e
	}
	return c, 0
}

func sameParse(t testing.TB, s string) {
	t.Helper()
	c, e := parse(t, s)
	if want, f := secondParse(s); e != f || !same(c, want) {
		t.Fatalf("Parse of %.300q: %s, error %d, want %s, error %d", s, shown(c), e, shown(want), f)
	}
}

// each hands out all texts of up to so many of these parts.
func each(parts []string, most int, do func(s string)) {
	do("")
	if most == 0 {
		return
	}
	for _, part := range parts {
		each(parts, most-1, func(s string) { do(part + s) })
	}
}

// TestSecondNames: the same names.
func TestSecondNames(t *testing.T) {
	for _, name := range cmd.Names() {
		if !strings.Contains(wordsOf+" ", name+":"+name+" ") {
			t.Errorf("%q is no short name", name)
		}
	}
	if n := len(regexp.MustCompile(`(\w+):(\w+)`).FindAllString(wordsOf, -1)); n != 31 || len(cmd.Names()) != 16 {
		t.Errorf("%d words, %d short names", n, len(cmd.Names()))
	}
}

// TestSecondOfEachText: all short texts of the bytes that say something; of three parts, of which the first ones are names.
func TestSecondOfEachText(t *testing.T) {
	each(strings.Split(`d|m|t|j|y|pu|k|s|g|v|norm|u|red|p|>|&|~|@|=|!|1|,|/|\|x| |%`, "|"), 3, func(s string) { sameParse(t, s) })
	for _, name := range []string{"s", "g", "v", "&", "d!", "m", "norm"} {
		each([]string{"/", `\`, " ", "3", "g", "&", "!"}, 5, func(s string) { sameParse(t, name+s) })
	}
}

// TestSecondOfEachWord: all texts of up to three letters that words have, then each beginning of each word with each byte behind, or ahead of what may follow a name.
func TestSecondOfEachWord(t *testing.T) {
	each(strings.Split("denormalputcyksghviujb", ""), 3, func(s string) { sameParse(t, s) })
	for _, one := range strings.Fields(wordsOf) {
		word, _, _ := strings.Cut(one, ":")
		for n := range len(word) + 1 {
			for c := range 256 {
				behind := string([]byte{byte(c)})
				sameParse(t, word[:n]+behind)
				if n < len(word) {
					continue
				}
				for _, s := range []string{" ", "!", "a", "/a/", "3"} {
					sameParse(t, word+s+behind)
					sameParse(t, word+behind+s)
				}
			}
		}
	}
}

// someText is of parts that say something, and now and then of any bytes.
func someText(r *rand.Rand) string {
	parts := []string{"1", "0", "3", "12", "007", "999999999", "1234567890", "%", "1,2", ".", "$", "'a", "'", "/b/", "?b?+1", ",", ";", ":",
		"s", "g", "v", "substitute", "global", "vglobal", "d", "delete", "m", "move", "t", "co", "copy", "j", "join", "y", "yank", "pu", "put", "k", "mark", "norm", "normal", "u", "undo", "red", "redo", "earlier", "later", "p", "print",
		">", "<", "&", "&&", "~", "@", "=", "!", "!", "/", "/", "/", ",", "#", `"`, "|", `\`, `\/`, `\,`, " ", " ", " ", "\t", "c", "e", "g", "i", "I", "n", "a", "Z", "_", "\x00", "\n", "\xff", "\u0167", "\u0133"}
	var all []byte
	if r.Intn(3) == 0 {
		all = append(all, parts[r.Intn(18)]...)
	}
	for i := range r.Intn(8) {
		part := parts[r.Intn(len(parts))]
		if i == 0 {
			part = parts[18+r.Intn(38)]
		}
		all = append(all, part...)
		if r.Intn(12) == 0 {
			all = append(all, byte(r.Intn(256)))
		}
	}
	return string(all)
}

func anyBytes(r *rand.Rand, most int) string {
	all := make([]byte, r.Intn(most+1))
	for i := range all {
		all[i] = byte(r.Intn(256))
	}
	return string(all)
}

// TestSecondAtRandom: texts of parts, and of any bytes, now and then as long as may be, or longer.
func TestSecondAtRandom(t *testing.T) {
	r := rand.New(rand.NewSource(15))
	for range 60000 {
		s := someText(r)
		switch r.Intn(40) {
		case 0:
			s = anyBytes(r, 12)
		case 1:
			s += anyBytes(r, 1030)
		case 2:
			s += strings.Repeat("/ ab 3\\"[r.Intn(7):][:1], max(996+r.Intn(10)-len(s), 0))
		}
		sameParse(t, s)
	}
}

// FuzzAny: any bytes.
func FuzzAny(f *testing.F) {
	for _, s := range []string{`%s/a\/b/c/g 3`, "dx", "zz", "1,2norm!  x", "g!/a/ d", "m/a/+2", "&& g3", ">> 3", "'ak'", "@:", "1234567890d", "s,a\\,,\\", "earlier 1234567890"} {
		f.Add(s)
	}
	f.Fuzz(func(t *testing.T, s string) { sameParse(t, s) })
}
