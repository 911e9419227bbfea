package pat_test

import (
	"fmt"
	"strings"
	"testing"
)

func TestHowManyTimes(t *testing.T) {
	checkAll(t, []example{
		{`a*`, "", "0a:{0,-1}b61"},
		{`a\+`, "", "0a:{1,-1}b61"},
		{`a\=`, "", "0a:{0,1}b61"},
		{`a\?`, "", "0a:{0,1}b61"},
		{`ba*c`, "", "0a:(b62{0,-1}b61b63)"},
		{`\va*b+c=d?e{2}`, "", "0a:({0,-1}b61{1,-1}b62{0,1}b63{0,1}b64{2,2}b65)"},
	})
}

func TestBraces(t *testing.T) {
	checkAll(t, []example{
		{`a\{}`, "", "0a:{0,-1}b61"},
		{`a\{-}`, "", "0a:{-0,-1}b61"},
		{`a\{3}`, "", "0a:{3,3}b61"},
		{`a\{-3}`, "", "0a:{-3,3}b61"},
		{`a\{3,}`, "", "0a:{3,-1}b61"},
		{`a\{-3,}`, "", "0a:{-3,-1}b61"},
		{`a\{,3}`, "", "0a:{0,3}b61"},
		{`a\{-,3}`, "", "0a:{-0,3}b61"},
		{`a\{2,3}`, "", "0a:{2,3}b61"},
		{`a\{-2,3}`, "", "0a:{-2,3}b61"},
		{`a\{,}`, "", "0a:{0,-1}b61"},
		{`a\{-,}`, "", "0a:{-0,-1}b61"},
		{`a\{2,2}`, "", "0a:{2,2}b61"},
		{`a\{0}`, "", "0a:{0,0}b61"},
		{`a\{0,0}`, "", "0a:{0,0}b61"},
		{`a\{,0}`, "", "0a:{0,0}b61"},
		{`a\{2\}`, "", "0a:{2,2}b61"},
		{`a\{-\}b`, "", "0a:({-0,-1}b61b62)"},
		{`\va{2}b{2\}`, "", "0a:({2,2}b61{2,2}b62)"},
		{`\Ma\{2}b\{2\}`, "", "0a:({2,2}b61{2,2}b62)"},
		{`\Va\{2}b\{2\}`, "", "0a:({2,2}b61{2,2}b62)"},
		{`a\{2}}`, "", "0a:({2,2}b61b7d)"},
	})
}

func TestBoundsOfBraces(t *testing.T) {
	checkAll(t, []example{
		{`a\{60}`, "", "0a:{60,60}b61"},
		{`a\{61}`, "", "32@1"},
		{`a\{60,}`, "", "0a:{60,-1}b61"},
		{`a\{61,}`, "", "32@1"},
		{`a\{,60}`, "", "0a:{0,60}b61"},
		{`a\{,61}`, "", "32@1"},
		{`a\{60,60}`, "", "0a:{60,60}b61"},
		{`a\{60,61}`, "", "32@1"},
		{`a\{061}`, "", "32@1"},
		{`a\{060}`, "", "0a:{60,60}b61"},
		{`a\{0060}`, "", "32@1"},
		{`a\{000}`, "", "0a:{0,0}b61"},
		{`a\{0000}`, "", "32@1"},
		{`a\{001,002}`, "", "0a:{1,2}b61"},
		{`a\{001,0002}`, "", "32@1"},
		{`a\{0001,2}`, "", "32@1"},
		{`a\{999}`, "", "32@1"},
		{`a\{1000}`, "", "32@1"},
		{`a\{` + strings.Repeat("9", 200) + `}`, "", "32@1"},
		{`a\{3,2}`, "", "32@1"},
		{`a\{1,0}`, "", "32@1"},
		{`a\{-3,2}`, "", "32@1"},
		{`ab\{60,59}`, "", "32@2"},
	})
	for n := range 130 {
		want := fmt.Sprintf("0a:({%d,%d}b61{0,%d}b62)", n, n, n)
		if n > 60 {
			want = "32@3"
		}
		checkAll(t, []example{{fmt.Sprintf(`\va{%d}b{,%d}`, n, n), "", want}})
	}
}

func TestBracesThatDoNotGoOnSo(t *testing.T) {
	for _, rest := range []string{
		``, `-`, `2`, `2,`, `2,3`, `,`, `,3`, `-2,3`, `\`, `2\`, `--}`, `-2-}`, `2-}`, `2,-3}`, `,,}`, `2,,3}`, `2,3,}`,
		`a}`, `2a}`, ` 2}`, `2 }`, `+2}`, `\v2}`, `2\\}`, `2\]`, `2)`, `\{2}`, `{2}`, "2\x00}", "2\n}",
	} {
		checkAll(t, []example{
			{`ab\{` + rest, "", "32@2"},
			{`\vab{` + rest, "", "32@4"},
			{`\v(ab{` + rest, "", "32@5"},
		})
	}
}

// TestWhatMayComeSeveralTimes tries each sign that says how many times behind each kind of piece.
func TestWhatMayComeSeveralTimes(t *testing.T) {
	pieces := []struct{ s, last, text string }{
		{`a`, "", "b61"}, {`.`, "", "."}, {`\d`, "", setOf("0123456789")}, {`\n`, "", setOf("")}, {`[xy]`, "", setOf("xy")},
		{`(b)`, "", "<1b62>"}, {`()`, "", "<1e>"}, {`(b|c)`, "", "<1(b62|b63)>"},
		{`~`, "", "e"}, {`~`, "q", "b71"}, {`~`, "qr", "(b71b72)"}, {`\e`, "", "b1b"}, {`\*`, "", "b2a"}, {`[`, "", "b5b"},
	}
	for _, x := range pieces {
		groups := strings.Count(x.s, "(")
		for sign, text := range map[string]string{`*`: "{0,-1}", `+`: "{1,-1}", `=`: "{0,1}", `?`: "{0,1}", `{-2,}`: "{-2,-1}"} {
			checkAll(t, []example{
				{`\v` + x.s + sign, x.last, fmt.Sprintf("%da:%s%s", groups, text, x.text)},
				{`\vx` + x.s + sign + `y`, x.last, fmt.Sprintf("%da:(b78%s%sb79)", groups, text, x.text)},
				{`\v` + x.s + `\V\m\C\v` + sign, x.last, fmt.Sprintf("%dm:%s%s", groups, text, x.text)},
			})
		}
	}
	checkAll(t, []example{{`\v(b)\1+`, "", `1a:(<1b62>{1,-1}\1)`}})
}

// TestWhatMayNotComeSeveralTimes: behind these, and with no piece ahead in the branch, * is itself and the others are wrong.
func TestWhatMayNotComeSeveralTimes(t *testing.T) {
	pieces := []struct{ s, text string }{
		{`^`, "0a:(^b2a)"}, {`<`, "0a:([b2a)"}, {`>`, "0a:(]b2a)"}, {`\zs`, "0a:(!b2a)"}, {`\ze`, "0a:(?b2a)"},
		{`a*`, "0a:({0,-1}b61b2a)"}, {`a+`, "0a:({1,-1}b61b2a)"}, {`a{2}`, "0a:({2,2}b61b2a)"},
		{``, "0a:b2a"}, {`|`, "0a:(e|b2a)"}, {`a|`, "0a:(b61|b2a)"}, {`\c`, "0i:b2a"}, {`a|\C`, "0m:(b61|b2a)"},
	}
	for _, x := range pieces {
		at := len(x.s) + 2
		checkAll(t, []example{{`\v` + x.s + `*`, "", x.text}})
		for _, sign := range []string{`+`, `=`, `?`, `{2}`, `{}`, `{`} {
			checkAll(t, []example{
				{`\v` + x.s + sign, "", fmt.Sprintf("32@%d", at)},
				{`\v` + x.s + `\V\` + sign, "", fmt.Sprintf("32@%d", at+2)},
			})
		}
	}
	checkAll(t, []example{
		{`\v(*)`, "", "1a:<1b2a>"},
		{`\v(a|*b)`, "", "1a:<1(b61|(b2ab62))>"},
		{`\v(+)`, "", "32@3"},
		{`\v(a|+)`, "", "32@5"},
		{`**`, "", "0a:{0,-1}b2a"},
		{`***`, "", "0a:({0,-1}b2ab2a)"},
		{`****`, "", "0a:({0,-1}b2a{0,-1}b2a)"},
		{`*\+`, "", "0a:{1,-1}b2a"},
		{`^**`, "", "0a:(^{0,-1}b2a)"},
		{`a\+*\=`, "", "0a:({1,-1}b61{0,1}b2a)"},
		{`~*\+`, "q", "32@2"},
		{`a^*`, "", "0a:(b61{0,-1}b5e)"},
	})
}
