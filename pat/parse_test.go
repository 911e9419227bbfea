package pat_test

import (
	"fmt"
	"reflect"
	"strings"
	"testing"

	"emendator/api"
	"emendator/pat"
)

const signs = "^$.*[~+=?{()|<>"

// inMode says which bytes are signs as they stand.
func inMode(mode byte) string {
	switch mode {
	case 'v':
		return signs
	case 'm':
		return "^$.*[~"
	case 'M':
		return "^$"
	}
	return ""
}

const modes = "vmMV"

func TestChaptersExamples(t *testing.T) {
	checkAll(t, []example{
		{`a*`, "", "0a:{0,-1}b61"},
		{`\va|(b)+`, "", "1a:(b61|{1,-1}<1b62>)"},
		{`*`, "", "0a:b2a"},
		{`\(a`, "", "31@0"},
		{`a\+\+`, "", "32@3"},
		{`\y`, "", "30@0"},
	})
}

// signAtWork is a sign between other bytes, what that is if it is a sign, and what if it is itself. The places of errors are behind a mode, of two bytes.
type signAtWork struct {
	c                       byte
	ahead, behind           string
	asSign, asItself, tilde string
}

func signsAtWork() []signAtWork {
	return []signAtWork{
		{'^', "", "x", "0a:(^b78)", "0a:(b5eb78)", ""},
		{'$', "x", "", "0a:(b78$)", "0a:(b78b24)", ""},
		{'.', "", "", "0a:.", "0a:b2e", ""},
		{'*', "x", "", "0a:{0,-1}b78", "0a:(b78b2a)", ""},
		{'[', "", "y]", "0a:" + setOf("y"), "0a:(b5bb79b5d)", ""},
		{'~', "", "", "0a:b71", "0a:b7e", "q"},
		{'+', "x", "", "0a:{1,-1}b78", "0a:(b78b2b)", ""},
		{'=', "x", "", "0a:{0,1}b78", "0a:(b78b3d)", ""},
		{'?', "x", "", "0a:{0,1}b78", "0a:(b78b3f)", ""},
		{'{', "x", "2}", "0a:{2,2}b78", "0a:(b78b7bb32b7d)", ""},
		{'(', "", "x", "31@2", "0a:(b28b78)", ""},
		{')', "x", "", "31@3", "0a:(b78b29)", ""},
		{'|', "x", "y", "0a:(b78|b79)", "0a:(b78b7cb79)", ""},
		{'<', "", "", "0a:[", "0a:b3c", ""},
		{'>', "", "", "0a:]", "0a:b3e", ""},
	}
}

func TestEachSignInEachMode(t *testing.T) {
	for _, mode := range []byte(modes) {
		for _, x := range signsAtWork() {
			bare, escaped := x.asItself, x.asSign
			if strings.IndexByte(inMode(mode), x.c) >= 0 {
				bare, escaped = escaped, bare
			}
			head := `\` + string(mode) + x.ahead
			checkAll(t, []example{
				{head + string(x.c) + x.behind, x.tilde, bare},
				{head + `\` + string(x.c) + x.behind, x.tilde, escaped},
			})
		}
	}
}

func TestMagicIsTheFirstMode(t *testing.T) {
	for _, x := range signsAtWork() {
		for _, form := range []string{string(x.c), `\` + string(x.c)} {
			body := x.ahead + form + x.behind
			first, said := told(t, body, x.tilde), told(t, `\m`+body, x.tilde)
			first = strings.Replace(first, "@"+fmt.Sprint(len(x.ahead)), "@"+fmt.Sprint(len(x.ahead)+2), 1)
			if first != said {
				t.Errorf("%q: %s, behind \\m: %s", body, first, said)
			}
		}
	}
}

// TestEachByteAsItStands: all but signs and the backslash are themselves, in each mode.
func TestEachByteAsItStands(t *testing.T) {
	for _, mode := range []byte(modes) {
		for i := range 256 {
			c := string([]byte{byte(i)})
			if strings.Contains(inMode(mode), c) || c == `\` {
				continue
			}
			checkAll(t, []example{{`\` + string(mode) + "x" + c + "y", "", "0a:(b78" + bytesText(c) + "b79)"}})
		}
	}
}

// behindBackslash is the text of the piece, or the error at place 3, that a byte but a sign makes behind a backslash; "" if it is no piece.
func behindBackslash(c byte) string {
	word := between('0', '9') + between('A', 'Z') + between('a', 'z')
	classes := map[byte]string{
		'd': between('0', '9'), 'x': between('0', '9') + "abcdefABCDEF", 'o': between('0', '7'),
		'w': word + "_", 'h': word[10:] + "_", 'a': word[10:], 'l': word[36:], 'u': word[10:36], 's': " \t",
	}
	if all, ok := classes[c]; ok {
		return setOf(all)
	}
	if all, ok := classes[c|0x20]; ok && c >= 'A' && c <= 'Z' {
		return setOf(but(all))
	}
	switch {
	case strings.IndexByte("vmMVcC", c) >= 0:
		return ""
	case c >= '1' && c <= '9':
		return "31@3"
	case c == 'n':
		return setOf("")
	case strings.IndexByte("etrb", c) >= 0:
		return map[byte]string{'e': "b1b", 't': "b09", 'r': "b0d", 'b': "b08"}[c]
	case strings.IndexByte(word, c) >= 0:
		return "30@3"
	}
	return bytesText(string([]byte{c}))
}

func TestEachByteBehindABackslash(t *testing.T) {
	for _, mode := range []byte(modes) {
		for i := range 256 {
			c := byte(i)
			if strings.IndexByte(signs, c) >= 0 {
				continue
			}
			letter := map[byte]string{'c': "i", 'C': "m"}[c]
			if letter == "" {
				letter = "a"
			}
			want := behindBackslash(c)
			switch {
			case want == "":
				want = "0" + letter + ":(b78b79)"
			case !strings.Contains(want, "@"):
				want = "0a:(b78" + want + "b79)"
			}
			checkAll(t, []example{{`\` + string(mode) + "x\\" + string([]byte{c}) + "y", "", want}})
		}
	}
}

func TestBackslashAtTheEnd(t *testing.T) {
	checkAll(t, []example{
		{`\`, "", "30@0"},
		{`ab\`, "", "30@2"},
		{`\v\`, "", "30@2"},
		{`\V\`, "", "30@2"},
		{`a\\\`, "", "30@3"},
		{`a\\`, "", "0a:(b61b5c)"},
		{`$\`, "", "30@1"},
		{`[a]\`, "", "30@3"},
	})
}

func TestEdgesOfTheMatch(t *testing.T) {
	checkAll(t, []example{
		{`\zs`, "", "0a:!"},
		{`\ze`, "", "0a:?"},
		{`a\zsb\zec`, "", "0a:(b61!b62?b63)"},
		{`\v\zs\V\ze`, "", "0a:(!?)"},
		{`\z`, "", "30@0"},
		{`a\zx`, "", "30@1"},
		{`a\z\s`, "", "30@1"},
		{`\zS`, "", "30@0"},
		{`\zss`, "", "0a:(!b73)"},
	})
}

func TestModesChange(t *testing.T) {
	checkAll(t, []example{
		{`a+\va+\ma+`, "", "0a:(b61b2b{1,-1}b61b61b2b)"},
		{`.\M.\V.\v.`, "", "0a:(.b2eb2e.)"},
		{`\V\.\M\.\m\.\v\.`, "", "0a:(..b2eb2e)"},
		{`\v(\Va.\m\).`, "", "1a:(<1(b61b2e)>.)"},
		{`\(\v.+)+`, "", "1a:{1,-1}<1{1,-1}.>"},
		{`\(\V.\).`, "", "1a:(<1b2e>b2e)"},
		{`\va|\V.|\|.`, "", "0a:(b61|(b2eb7c)|b2e)"},
		{`.\|\V.\|\v.|.`, "", "0a:(.|b2e|.|.)"},
		{`\v\m\M\Va^`, "", "0a:(b61b5e)"},
		{`\v`, "", "0a:e"},
		{`\v\V\m\M`, "", "0a:e"},
		{`a\v`, "", "0a:b61"},
	})
}

func TestCase(t *testing.T) {
	checkAll(t, []example{
		{`a`, "", "0a:b61"},
		{`\c`, "", "0i:e"},
		{`\C`, "", "0m:e"},
		{`a\cb`, "", "0i:(b61b62)"},
		{`a\Cb`, "", "0m:(b61b62)"},
		{`\ca\Cb`, "", "0m:(b61b62)"},
		{`\Ca\cb`, "", "0i:(b61b62)"},
		{`\c\C\c`, "", "0i:e"},
		{`\(a\c\)b\|\Cc`, "", "1m:((<1b61>b62)|b63)"},
		{`\v(\ca|b)\V\Cc`, "", "1m:(<1(b61|b62)>b63)"},
		{`a$\c`, "", "0i:(b61$)"},
		{`[\c]`, "", "0a:" + setOf(`\c`)},
		{`\\c`, "", "0a:(b5cb63)"},
	})
	for s, want := range map[string]uint8{`a`: api.CaseAsked, `\ca`: api.CaseIgnore, `a\C`: api.CaseMatch} {
		if p, _, _ := pat.Parse(s, ""); p.Case != want {
			t.Errorf("Parse(%q): Case %d", s, p.Case)
		}
	}
}

func TestBranches(t *testing.T) {
	checkAll(t, []example{
		{``, "", "0a:e"},
		{`a`, "", "0a:b61"},
		{`ab`, "", "0a:(b61b62)"},
		{`a\|b`, "", "0a:(b61|b62)"},
		{`a\|bc\|d`, "", "0a:(b61|(b62b63)|b64)"},
		{`\|`, "", "0a:(e|e)"},
		{`\|\|`, "", "0a:(e|e|e)"},
		{`a\|`, "", "0a:(b61|e)"},
		{`\|a`, "", "0a:(e|b61)"},
		{`\v|\c|`, "", "0i:(e|e|e)"},
		{`\(\)`, "", "1a:<1e>"},
		{`\(\|\)`, "", "1a:<1(e|e)>"},
		{`\(a\|b\)c\|d`, "", "1a:((<1(b61|b62)>b63)|b64)"},
		{`a|b`, "", "0a:(b61b7cb62)"},
	})
}

func TestBeginningOfTheLine(t *testing.T) {
	checkAll(t, []example{
		{`^`, "", "0a:^"},
		{`^a`, "", "0a:(^b61)"},
		{`a^`, "", "0a:(b61b5e)"},
		{`^^`, "", "0a:(^b5e)"},
		{`a\|^b`, "", "0a:(b61|(^b62))"},
		{`\(^a\)^`, "", "1a:(<1(^b61)>b5e)"},
		{`\(a\|^b\)`, "", "1a:<1(b61|(^b62))>"},
		{`\c^a`, "", "0i:(^b61)"},
		{`\v\C\m^a`, "", "0m:(^b61)"},
		{`a\c^`, "", "0i:(b61b5e)"},
		{`a\|\v^b`, "", "0a:(b61|(^b62))"},
		{`\zs^a`, "", "0a:(!b5eb61)"},
		{`~^a`, "", "0a:(eb5eb61)"},
		{`a*^`, "", "0a:({0,-1}b61b5e)"},
		{`$^`, "", "0a:(b24b5e)"},
		{`\^a`, "", "0a:(b5eb61)"},
		{`\V^a`, "", "0a:(b5eb61)"},
		{`\V\^a\^`, "", "0a:(^b61b5e)"},
	})
}

func TestEndOfTheLine(t *testing.T) {
	checkAll(t, []example{
		{`$`, "", "0a:$"},
		{`a$`, "", "0a:(b61$)"},
		{`$a`, "", "0a:(b24b61)"},
		{`$$`, "", "0a:(b24$)"},
		{`^$`, "", "0a:(^$)"},
		{`a$\|b$`, "", "0a:((b61$)|(b62$))"},
		{`\(a$\)b`, "", "1a:(<1(b61$)>b62)"},
		{`\v(a$)|b$|c`, "", "1a:(<1(b61$)>|(b62$)|b63)"},
		{`a$|b`, "", "0a:(b61b24b7cb62)"},
		{`a$)`, "", "0a:(b61b24b29)"},
		{`a$\v`, "", "0a:(b61$)"},
		{`a$\c\v\C`, "", "0m:(b61$)"},
		{`a$\v|b`, "", "0a:((b61$)|b62)"},
		{`a$\v\|b`, "", "0a:(b61b24b7cb62)"},
		{`\va$\m|b`, "", "0a:(b61b24b7cb62)"},
		{`\va$\m\|b`, "", "0a:((b61$)|b62)"},
		{`\(a$\v)`, "", "1a:<1(b61$)>"},
		{`\(a$\c\)`, "", "1i:<1(b61$)>"},
		{`a$\vb`, "", "0a:(b61b24b62)"},
		{`$*`, "", "0a:{0,-1}b24"},
		{`a$\zs`, "", "0a:(b61b24!)"},
		{`a\$`, "", "0a:(b61b24)"},
		{`\Va$`, "", "0a:(b61b24)"},
		{`\Va\$`, "", "0a:(b61$)"},
		{`\Va\$b\$\|c\$`, "", "0a:((b61b24b62$)|(b63$))"},
		{`a$\)`, "", "31@2"},
		{`a$\y`, "", "30@2"},
		{`a$\c\y`, "", "30@4"},
	})
}

func TestWords(t *testing.T) {
	checkAll(t, []example{
		{`\<ab\>`, "", "0a:([b61b62])"},
		{`\v<ab>`, "", "0a:([b61b62])"},
		{`<ab>`, "", "0a:(b3cb61b62b3e)"},
	})
}

func TestWhatIsReadAgain(t *testing.T) {
	checkAll(t, []example{
		{`~`, "", "0a:e"},
		{`~`, "q", "0a:b71"},
		{`~`, "qr", "0a:(b71b72)"},
		{`a~b`, "qr", "0a:(b61(b71b72)b62)"},
		{`a~`, "", "0a:(b61e)"},
		{`~~`, "q", "0a:(b71b71)"},
		{`~\|~`, "qr", "0a:((b71b72)|(b71b72))"},
		{`\(~\)`, "qr", "1a:<1(b71b72)>"},
		{`~`, `\v.*`, "0a:(" + bytesText(`\v.*`) + ")"},
		{`~.`, `\V`, "0a:((b5cb56).)"},
		{`~`, "\x00\xff\n", "0a:(b00bffb0a)"},
		{`\~`, "q", "0a:b7e"},
		{`\M~\~`, "q", "0a:(b7eb71)"},
		{`[~]`, "q", "0a:" + setOf("~")},
	})
}

func TestGroups(t *testing.T) {
	checkAll(t, []example{
		{`\(a\)`, "", "1a:<1b61>"},
		{`\(a\(b\)\)\(c\)`, "", "3a:(<1(b61<2b62>)><3b63>)"},
		{`\(\(\(a\)\)\)`, "", "3a:<1<2<3b61>>>"},
		{`\va(b(c)d)e`, "", "2a:(b61<1(b62<2b63>b64)>b65)"},
		{`(a)`, "", "0a:(b28b61b29)"},
		{`\(a\|b\)\+$`, "", "1a:({1,-1}<1(b61|b62)>$)"},
		{`\v(a|b)+~`, "xy", "1a:({1,-1}<1(b61|b62)>(b78b79))"},
		{`\v((((((((()))))))))`, "", "9a:<1<2<3<4<5<6<7<8<9e>>>>>>>>>"},
		{`\v()()()()()()()()()`, "", "9a:(<1e><2e><3e><4e><5e><6e><7e><8e><9e>)"},
		{`\v()()()()()()()()()()`, "", "31@20"},
		{`\v(((((((((()))))))))`, "", "31@11"},
		{strings.Repeat(`\(\)`, 9) + `ab\(`, "", "31@38"},
		{`\(`, "", "31@0"},
		{`ab\(c`, "", "31@2"},
		{`\v(`, "", "31@2"},
		{`\v()(`, "", "31@4"},
		{`\(a\)\(b\|`, "", "31@5"},
		{`\(a\(b\)`, "", "31@0"},
		{`\(a)`, "", "31@0"},
		{`\v(a\)`, "", "31@2"},
		{`\)`, "", "31@0"},
		{`a\)b`, "", "31@1"},
		{`\v)`, "", "31@2"},
		{`\(a\)\)`, "", "31@5"},
		{`\(a\|b\)\|\)`, "", "31@10"},
	})
}

// TestTwoGroupsWithoutAnEnd: at the end of the pattern it is the inner group's end that is missing first.
func TestTwoGroupsWithoutAnEnd(t *testing.T) {
	checkAll(t, []example{
		{`\(a\(b`, "", "31@3"},
		{`\v((()(`, "", "31@6"},
		{`\v((()`, "", "31@3"},
	})
}

func TestWhatAGroupRemembers(t *testing.T) {
	checkAll(t, []example{
		{`\(a\)\1`, "", `1a:(<1b61>\1)`},
		{`\v(a)(b)\2\1`, "", `2a:(<1b61><2b62>\2\1)`},
		{`\v(a(b)\2)\1`, "", `2a:(<1(b61<2b62>\2)>\1)`},
		{`\v(a)|\1`, "", `1a:(<1b61>|\1)`},
		{`\v()()()()()()()()()\9`, "", `9a:(<1e><2e><3e><4e><5e><6e><7e><8e><9e>\9)`},
		{`\1`, "", "31@0"},
		{`a\9`, "", "31@1"},
		{`\(a\1\)`, "", "31@3"},
		{`\(a\)\2`, "", "31@5"},
		{`\v(a(b)\1)`, "", "31@7"},
		{`\v\1(a)`, "", "31@2"},
		{`\(a\)\0`, "", "30@5"},
		{`\(a\)\12`, "", `1a:(<1b61>\1b32)`},
		{`\V\(a\)\1`, "", `1a:(<1b61>\1)`},
	})
}

// TestTheFirstError: what is read first is wrong first; a group without an end is so at the end, whatever its place.
func TestTheFirstError(t *testing.T) {
	checkAll(t, []example{
		{`\y\)`, "", "30@0"},
		{`\)\y`, "", "31@0"},
		{`a\)\+\y`, "", "31@1"},
		{`\+\)`, "", "32@0"},
		{`\1\y`, "", "31@0"},
		{`\y\1`, "", "30@0"},
		{`\(\y`, "", "30@2"},
		{`\(a\+\+`, "", "32@5"},
		{`\([b-a]`, "", "30@2"},
		{`\(\1`, "", "31@2"},
		{`\(a\{61}`, "", "32@3"},
		{`\(a\`, "", "30@3"},
		{`\v(()()()()()()()()()`, "", "31@19"},
		{`\(a\)\)\(`, "", "31@5"},
		{`[b-a]\y`, "", "30@0"},
		{`a\{2,1}[b-a]`, "", "32@1"},
		{`[b-a]\+\+`, "", "30@0"},
	})
}

func TestHowLong(t *testing.T) {
	fits, long := strings.Repeat("a", 300), strings.Repeat("a", 301)
	checkAll(t, []example{
		{fits, "", "0a:(" + bytesText(fits) + ")"},
		{long, "", "33@0"},
		{strings.Repeat("a", 100000), "", "33@0"},
		{`a`, strings.Repeat("b", 1000), "0a:b61"},
		{`a`, strings.Repeat("b", 1001), "33@0"},
		{``, strings.Repeat("b", 1001), "33@0"},
		{strings.Repeat("a", 298) + `\y`, "", "30@298"},
		{strings.Repeat("a", 299) + `\`, "", "30@299"},
		{strings.Repeat("a", 299) + `\y`, "", "33@0"},
		{`\y` + long, "", "33@0"},
		{`\)`, strings.Repeat("b", 1001), "33@0"},
		{`\)`, strings.Repeat("b", 1000), "31@0"},
	})
}

func TestHowManyNodes(t *testing.T) {
	text := func(n int) string { return bytesText(strings.Repeat("b", n)) }
	last := func(n int) string { return strings.Repeat("b", n) }
	checkAll(t, []example{
		{`~`, last(399), "0a:(" + text(399) + ")"},
		{`~`, last(400), "33@0"},
		{`~`, last(1000), "33@0"},
		{`~*`, last(398), "0a:{0,-1}(" + text(398) + ")"},
		{`~*`, last(399), "33@0"},
		{`~a`, last(397), "0a:((" + text(397) + ")b61)"},
		{`~a`, last(398), "33@0"},
		{`a~`, last(398), "33@0"},
		{`~\|`, last(397), "0a:((" + text(397) + ")|e)"},
		{`~\|`, last(398), "33@0"},
		{`\(~\)`, last(398), "1a:<1(" + text(398) + ")>"},
		{`\(~\)`, last(399), "33@0"},
		{`~~`, last(198), "0a:((" + text(198) + ")(" + text(198) + "))"},
		{`~~`, last(199), "33@0"},
		{`\(\)\1~`, last(395), `1a:(<1e>\1(` + text(395) + "))"},
		{`\(\)\1~`, last(396), "33@0"},
	})
}

// TestTooManyNodesAreToldLast: any other error, wherever it is, is told instead.
func TestTooManyNodesAreToldLast(t *testing.T) {
	last := strings.Repeat("b", 1000)
	checkAll(t, []example{
		{`~\y`, last, "30@1"},
		{`~~~\)`, last, "31@3"},
		{`\(~~`, last, "31@0"},
		{`~\zs\+`, last, "32@4"},
		{`~~\1`, last, "31@2"},
		{`~~[b-a]`, last, "30@2"},
		{`~~*\+`, last, "32@3"},
		{`~~*`, last, "33@0"},
		{`~~\+~\{2}~\=`, last, "33@0"},
		{`~a\|\(~\)\1^`, last, "33@0"},
		{strings.Repeat("~", 300), last, "33@0"},
	})
}

// TestAnswersAreNewMemory: what one call answered can be changed, and another one's is as it was; no two lists of an answer are one.
func TestAnswersAreNewMemory(t *testing.T) {
	const s = `\(a\|bc*\)\+~[d]\|\1`
	p, _, _ := pat.Parse(s, "qrs")
	q, _, _ := pat.Parse(s, "qrs")
	want := pat.Print(q)
	for i := range p.Nodes {
		for k := range p.Nodes[i].Kids {
			before := fmt.Sprint(p.Nodes[:i], p.Nodes[i+1:])
			p.Nodes[i].Kids[k] = -7
			_ = append(p.Nodes[i].Kids, -8)
			if fmt.Sprint(p.Nodes[:i], p.Nodes[i+1:]) != before {
				t.Errorf("node %d shares its Kids", i)
			}
		}
		p.Nodes[i] = api.Node{Op: 99}
	}
	if is := pat.Print(q); is != want || is != told(t, s, "qrs") {
		t.Errorf("changed with another answer: %s, want %s", is, want)
	}
	r, _, _ := pat.Parse(s, "qrs")
	if !reflect.DeepEqual(q, r) {
		t.Error("the same call answers otherwise")
	}
}
