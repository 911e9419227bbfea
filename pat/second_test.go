package pat_test

import (
	"fmt"
	"math/rand"
	"regexp"
	"strconv"
	"strings"
	"testing"

	"emendator/api"
	"emendator/kind"
)

// second reads patterns a second time, in another way than the program does: one loop over the bytes, the open groups on a list, texts in place of nodes.
type second struct {
	s, last string
	at      int
	signs   string
	letter  string // of the case
	open    []level
	groups  int
	closed  map[int]bool
	nodes   int
	wrong   string
}

// level is a group that is open, or the whole: its place, its number, the texts of its branches and of the pieces of the last one.
type level struct {
	at, n    int
	branches []string
	pieces   []string
	kinds    string // of the pieces: r, if one may come several times, else x
}

func (x *second) top() *level { return &x.open[len(x.open)-1] }

func (x *second) fail(e api.Errno, at int) {
	if x.wrong == "" {
		x.wrong = fmt.Sprintf("%d@%d", e, at)
	}
}

func (x *second) put(text string, repeats bool) {
	x.nodes++
	x.top().pieces = append(x.top().pieces, text)
	x.top().kinds += map[bool]string{true: "r", false: "x"}[repeats]
}

func (x *second) closeBranch() {
	l := x.top()
	text := strings.Join(l.pieces, "")
	switch len(l.pieces) {
	case 0:
		text = "e"
		x.nodes++
	case 1:
	default:
		text = "(" + text + ")"
		x.nodes++
	}
	l.branches, l.pieces, l.kinds = append(l.branches, text), nil, ""
}

func (x *second) closeLevel() (string, level) {
	x.closeBranch()
	l := *x.top()
	x.open = x.open[:len(x.open)-1]
	if len(l.branches) == 1 {
		return l.branches[0], l
	}
	x.nodes++
	return "(" + strings.Join(l.branches, "|") + ")", l
}

// readAgain is what the chapter asks for, as told tells it.
func readAgain(s, last string) string {
	if len(s) > 300 || len(last) > 1000 {
		return "33@0"
	}
	x := &second{s: s, last: last, signs: "^$.*[~", letter: "a", open: []level{{}}, closed: map[int]bool{}}
	for x.at < len(s) && x.wrong == "" {
		x.step()
	}
	if x.wrong == "" && len(x.open) > 1 {
		x.fail(api.ErrPatGroup, x.top().at)
	}
	if x.wrong != "" {
		return x.wrong
	}
	text, _ := x.closeLevel()
	if x.nodes > 400 {
		return "33@0"
	}
	return strconv.Itoa(x.groups) + x.letter + ":" + text
}

var noPiece = regexp.MustCompile(`^\\[vmMVcC]`)

func (x *second) setting() bool {
	if !noPiece.MatchString(x.s[x.at:]) {
		return false
	}
	switch c := x.s[x.at+1]; c {
	case 'c':
		x.letter = "i"
	case 'C':
		x.letter = "m"
	default:
		x.signs = inMode(c)
	}
	x.at += 2
	return true
}

// lookAt is the byte at the place, whether it is a sign there, and how many bytes it takes; a backslash ahead of anything but a sign is none.
func (x *second) lookAt() (c byte, sign bool, size int) {
	c = x.s[x.at]
	if c != '\\' || x.at+1 == len(x.s) {
		return c, strings.IndexByte(x.signs, c) >= 0, 1
	}
	c = x.s[x.at+1]
	return c, strings.IndexByte(signs, c) >= 0 && strings.IndexByte(x.signs, c) < 0, 2
}

func (x *second) step() {
	if x.setting() {
		return
	}
	at := x.at
	c, sign, size := x.lookAt()
	x.at += size
	switch {
	case sign:
		x.sign(c, at)
	case size == 2 && strings.IndexByte(signs, c) < 0:
		x.escape(c, at)
	case size == 1 && c == '\\':
		x.fail(api.ErrPatForm, at)
	default:
		x.put(fmt.Sprintf("b%02x", c), true)
	}
}

func (x *second) escape(c byte, at int) {
	text := behindBackslash(c)
	switch {
	case c >= '1' && c <= '9':
		if !x.closed[int(c-'0')] {
			x.fail(api.ErrPatGroup, at)
		}
		x.put(`\`+string(c), true)
	case c == 'z' && x.at < len(x.s) && strings.IndexByte("se", x.s[x.at]) >= 0:
		x.put(map[byte]string{'s': "!", 'e': "?"}[x.s[x.at]], false)
		x.at++
	case strings.Contains(text, "@"):
		x.fail(api.ErrPatForm, at)
	default:
		x.put(text, true)
	}
}

// endsBehind says whether the branch ends behind this place.
func (x second) endsBehind() bool {
	for x.setting() {
	}
	if x.at == len(x.s) {
		return true
	}
	c, sign, _ := x.lookAt()
	return sign && (c == '|' || c == ')')
}

func (x *second) sign(c byte, at int) {
	plain := fmt.Sprintf("b%02x", c)
	bare := map[byte]string{'.': ".", '<': "[", '>': "]"}
	switch {
	case c == '^' && len(x.top().pieces) == 0:
		x.put("^", false)
	case c == '$' && x.endsBehind():
		x.put("$", false)
	case bare[c] != "":
		x.put(bare[c], c == '.')
	case c == '~':
		x.tilde()
	case c == '[':
		x.bracket(at)
	case strings.IndexByte("*+=?{", c) >= 0:
		x.times(c, at)
	case c == '(':
		x.groups++
		if x.groups > 9 {
			x.fail(api.ErrPatGroup, at)
		}
		x.open = append(x.open, level{at: at, n: x.groups})
	case c == ')' && len(x.open) == 1:
		x.fail(api.ErrPatGroup, at)
	case c == ')':
		text, l := x.closeLevel()
		x.put("<"+strconv.Itoa(l.n)+text+">", true)
		x.closed[l.n] = true
	case c == '|':
		x.closeBranch()
	default:
		x.put(plain, true)
	}
}

func (x *second) tilde() {
	text := bytesText(x.last)
	switch len(x.last) {
	case 0:
		text = "e"
	case 1:
	default:
		text = "(" + text + ")"
		x.nodes += len(x.last)
	}
	x.put(text, true)
}

var braces = regexp.MustCompile(`^(-?)([0-9]{0,3})(?:(,)([0-9]{0,3}))?\\?\}`)

func (x *second) times(c byte, at int) {
	l := x.top()
	if !strings.HasSuffix(l.kinds, "r") {
		if c != '*' {
			x.fail(api.ErrPatMany, at)
		}
		x.put("b2a", true)
		return
	}
	text := map[byte]string{'*': "{0,-1}", '+': "{1,-1}", '=': "{0,1}", '?': "{0,1}"}[c]
	if c == '{' {
		f := braces.FindStringSubmatch(x.s[x.at:])
		if f == nil {
			x.fail(api.ErrPatMany, at)
			return
		}
		x.at += len(f[0])
		least, _ := strconv.Atoi("0" + f[2])
		most, _ := strconv.Atoi("0" + f[4])
		switch {
		case f[3] == "" && f[2] != "":
			most = least
		case f[4] == "":
			most = -1
		}
		if least > 60 || most > 60 || most >= 0 && most < least {
			x.fail(api.ErrPatMany, at)
		}
		text = fmt.Sprintf("{%s%d,%d}", f[1], least, most)
	}
	x.nodes++
	l.pieces[len(l.pieces)-1] = text + l.pieces[len(l.pieces)-1]
	l.kinds = l.kinds[:len(l.kinds)-1] + "x"
}

// An item of a collection, as it is written; in the alternatives' order.
var item = regexp.MustCompile(`^(?s:\[:(alpha|digit|alnum|lower|upper|blank|space|xdigit|cntrl|punct):\]|(\\[etrbn\\\]^-]|.)(?:-(\\[etrbn\\\]^-]|[^\]]))?)`)

// wide is each byte as a rune of its own, so that regular expressions go byte by byte.
func wide(s string) string {
	all := []rune{}
	for i := range len(s) {
		all = append(all, rune(s[i]))
	}
	return string(all)
}

// member is the byte that is meant, of one item's side.
func member(s string) rune {
	all := []rune(s)
	if len(all) == 1 {
		return all[0]
	}
	if c, ok := map[rune]rune{'e': 0x1b, 't': 9, 'r': 0x0d, 'b': 8, 'n': 0x0a}[all[1]]; ok {
		return c
	}
	return all[1]
}

func (x *second) bracket(at int) {
	rest, others := strings.CutPrefix(wide(x.s[x.at:]), "^")
	var set [256]bool
	falls := false
	for first := true; first || !strings.HasPrefix(rest, "]"); first = false {
		f := item.FindStringSubmatch(rest)
		if f == nil {
			x.put("b5b", true)
			return
		}
		rest = rest[len(f[0]):]
		if f[3] == "" {
			f[3] = f[2]
		}
		named, ok := kind.Named(f[1])
		for c := range set {
			set[c] = set[c] || ok && kind.Has(named, byte(c)) || !ok && rune(c) >= member(f[2]) && rune(c) <= member(f[3])
		}
		falls = falls || !ok && member(f[3]) < member(f[2])
	}
	if falls {
		x.fail(api.ErrPatForm, at)
		return
	}
	x.at = len(x.s) - len([]rune(rest)) + 1
	all := []byte{}
	for c, in := range set {
		if in != others {
			all = append(all, byte(c))
		}
	}
	x.put(setOf(string(all)), true)
}

func compare(t *testing.T, s, last string) {
	t.Helper()
	if is, want := told(t, s, last), readAgain(s, last); is != want {
		t.Errorf("Parse(%q, %q): %s, the second reader: %s", s, last, is, want)
	}
}

// each hands all texts of up to n of these bytes to do.
func each(alphabet string, n int, do func(s string)) {
	all := []string{""}
	for range n {
		var longer []string
		for _, s := range all {
			do(s)
			for i := range len(alphabet) {
				longer = append(longer, s+alphabet[i:i+1])
			}
		}
		all = longer
	}
	for _, s := range all {
		do(s)
	}
}

func TestAllShortPatterns(t *testing.T) {
	each(`\vV^$*|()a`, 5, func(s string) { compare(t, s, "") })
	each(`\vMm~+c1z`, 4, func(s string) { compare(t, s, "qr"); compare(t, s, "") })
	each(`[]^-\ab:n`, 5, func(s string) { compare(t, "["+s, "") })
	each(`0169-,}\`, 5, func(s string) { compare(t, `a\{`+s, "") })
	each(`()|1\a*`, 5, func(s string) { compare(t, `\v`+s, "") })
}

// TestAnyPatterns: long ones, of pieces that mean something and of any bytes.
func TestAnyPatterns(t *testing.T) {
	parts := strings.Fields(`a b ^ $ . * [ ] ~ + = ? { } ( ) | < > - , : \ \\ \v \m \M \V \c \C \( \) \| \{ \} \+ \= \? \< \> \^ \$ \. \* \[ \~ ` +
		`\1 \2 \9 \0 \d \D \w \s \x \e \t \r \b \n \zs \ze \z \y {2} {2,3} {-} {-1,} {,60} {61} {3,2} \{2} \{-2,3\} \{,5} [a-c] [^a-c] [b-a] []a] [^]] ` +
		`[[:alpha:]] [^[:digit:]x] [:alpha:] [\]] [\e-\\] [a-\]] (a) (a|b) \(a\) \(a\|b\)`)
	lasts := []string{"", "q", "qr", `\v~*`, strings.Repeat("b", 100), strings.Repeat("b", 1000), strings.Repeat("b", 1001)}
	r := rand.New(rand.NewSource(3))
	for range 40000 {
		s := ""
		for range r.Intn(14) {
			if r.Intn(12) == 0 {
				s += string([]byte{byte(r.Intn(256))})
			} else {
				s += parts[r.Intn(len(parts))]
			}
		}
		compare(t, s, lasts[r.Intn(len(lasts))])
	}
}

// TestAnyBytes: patterns up to and beyond the bound, of any bytes.
func TestAnyBytes(t *testing.T) {
	r := rand.New(rand.NewSource(5))
	for range 1000 {
		all := make([]byte, r.Intn(310))
		for i := range all {
			all[i] = byte(r.Intn(256))
		}
		compare(t, string(all), string(all[:len(all)/2]))
	}
}
