package pat_test

import (
	"testing"
)

// collected is the text of a pattern that is one collection of these bytes.
func collected(all string) string { return "0a:" + setOf(all) }

func TestCollections(t *testing.T) {
	checkAll(t, []example{
		{`[a]`, "", collected("a")},
		{`[abc]`, "", collected("abc")},
		{`[aaa]`, "", collected("a")},
		{`[^a]`, "", collected(but("a"))},
		{`[^abc]`, "", collected(but("abc"))},
		{`[a^]`, "", collected("a^")},
		{`[^^]`, "", collected(but("^"))},
		{`[^a^]`, "", collected(but("a^"))},
		{`[.*$~(|)<>{}+=?]`, "", collected(".*$~(|)<>{}+=?")},
		{"[\x00\xff\x80\n]", "", collected("\x00\xff\x80\n")},
		{`x[a]y`, "", "0a:(b78" + setOf("a") + "b79)"},
		{`[a][b]`, "", "0a:(" + setOf("a") + setOf("b") + ")"},
		{`[a]]`, "", "0a:(" + setOf("a") + "b5d)"},
		{`\v[a|b]`, "", collected("a|b")},
		{`\v([)])`, "", "1a:<1" + setOf(")") + ">"},
		{`[a]$`, "", "0a:(" + setOf("a") + "$)"},
		{`\V\[a]`, "", collected("a")},
		{`\M\[^a]`, "", collected(but("a"))},
		{`\V[a]`, "", "0a:(b5bb61b5d)"},
		{`\[a]`, "", "0a:(b5bb61b5d)"},
	})
}

func TestCollectionsBracketFirst(t *testing.T) {
	checkAll(t, []example{
		{`[]]`, "", collected("]")},
		{`[]a]`, "", collected("]a")},
		{`[^]]`, "", collected(but("]"))},
		{`[^]a]`, "", collected(but("]a"))},
		{`[]]]`, "", "0a:(" + setOf("]") + "b5d)"},
		{`[]-a]`, "", collected(between(']', 'a'))},
		{`[]-]`, "", collected("]-")},
		{`[^]-]`, "", collected(but("]-"))},
		{`[^^]]`, "", "0a:(" + setOf(but("^")) + "b5d)"},
		{`[\]]`, "", collected("]")},
		{`[[]`, "", collected("[")},
		{`[[]]`, "", "0a:(" + setOf("[") + "b5d)"},
	})
}

func TestCollectionsRanges(t *testing.T) {
	checkAll(t, []example{
		{`[a-c]`, "", collected("abc")},
		{`[a-cx-z]`, "", collected("abcxyz")},
		{`[^a-c]`, "", collected(but("abc"))},
		{`[a-a]`, "", collected("a")},
		{`[0-9_]`, "", collected("0123456789_")},
		{"[\x00-\xff]", "", collected(but(""))},
		{"[^\x00-\xff]", "", collected("")},
		{"[\xfe-\xff]", "", collected("\xfe\xff")},
		{`[-a]`, "", collected("-a")},
		{`[a-]`, "", collected("a-")},
		{`[-]`, "", collected("-")},
		{`[--]`, "", collected("-")},
		{`[---]`, "", collected("-")},
		{`[--0]`, "", collected("-./0")},
		{`[+--]`, "", collected("+,-")},
		{`[^-]`, "", collected(but("-"))},
		{`[^-a]`, "", collected(but("-a"))},
		{`[^--0]`, "", collected(but("-./0"))},
		{`[a-c-e]`, "", collected("abc-e")},
		{`[a-c-]`, "", collected("abc-")},
		{`[a-]]`, "", "0a:(" + setOf("a-") + "b5d)"},
		{`[[-a]`, "", collected(between('[', 'a'))},
		{`[Z-[]`, "", collected("Z[")},
		{`[\-a-c]`, "", collected("-abc")},
		{`[a\-c]`, "", collected("a-c")},
		{`[\--0]`, "", collected("-./0")},
		{`[+-\-]`, "", collected("+,-")},
		{`[\e-\ ]`, "", "0a:" + setOf(between(0x1b, '\\')+" ")},
		{`[\b-\r]`, "", collected(between(8, 13))},
		{`[\t-\n]`, "", collected("\t\n")},
		{`[[-\\]`, "", collected(`[\`)},
		{`[[-\]]`, "", collected(`[\]`)},
		{`[\\-\]]`, "", collected(`\]`)},
		{`[\]-\^]`, "", collected(`]^`)},
		{`[\^-a]`, "", collected("^_`a")},
		{`[Z-\d]`, "", collected(`Z[\d`)},
		{`[\d-f]`, "", collected(`\def`)},
	})
}

func TestCollectionsRangesThatFall(t *testing.T) {
	checkAll(t, []example{
		{`[b-a]`, "", "30@0"},
		{`[^b-a]`, "", "30@0"},
		{`xy[b-a]`, "", "30@2"},
		{`x[a-cz-a]`, "", "30@1"},
		{`[a--]`, "", "30@0"},
		{"[\xff-\x00]", "", "30@0"},
		{`[a-\e]`, "", "30@0"},
		{`[\^-\]]`, "", "30@0"},
		{`[a-\]]`, "", "30@0"},
		{`[a-[:digit:]]`, "", "30@0"},
		{`\vx[b-a]`, "", "30@3"},
		{`\(a[b-a]\)`, "", "30@3"},
		{`\Vx\[b-a]`, "", "30@3"},
		{`\M\[b-a]`, "", "30@2"},
		{`[b-a]*`, "", "30@0"},
	})
}

func TestCollectionsBackslash(t *testing.T) {
	checkAll(t, []example{
		{`[\e]`, "", collected("\x1b")},
		{`[\t]`, "", collected("\x09")},
		{`[\r]`, "", collected("\x0d")},
		{`[\b]`, "", collected("\x08")},
		{`[\n]`, "", collected("\x0a")},
		{`[\\]`, "", collected(`\`)},
		{`[\]]`, "", collected("]")},
		{`[\^]`, "", collected("^")},
		{`[\^a]`, "", collected("^a")},
		{`[^\^]`, "", collected(but("^"))},
		{`[\-]`, "", collected("-")},
		{`[^\n]`, "", collected(but("\n"))},
		{`[\etrbn]`, "", collected("\x1btrbn")},
		{`[\\e]`, "", collected(`\e`)},
		{`[\[]`, "", collected(`\[`)},
	})
	for i := range 256 {
		c := string([]byte{byte(i)})
		switch c {
		case "e", "t", "r", "b", "n", `\`, "]", "^", "-":
			continue
		}
		checkAll(t, []example{{`[x\` + c + `]`, "", collected(`x\` + c)}})
	}
}

func TestCollectionsNames(t *testing.T) {
	small, great, digits := between('a', 'z'), between('A', 'Z'), between('0', '9')
	for name, all := range map[string]string{
		"alpha": small + great, "digit": digits, "alnum": small + great + digits, "lower": small, "upper": great,
		"blank": " \t", "space": " \t\n\v\f\r", "xdigit": digits + "abcdefABCDEF", "cntrl": between(0, 0x1f) + "\x7f",
		"punct": between(0x21, 0x2f) + between(0x3a, 0x40) + between(0x5b, 0x60) + between(0x7b, 0x7e),
	} {
		checkAll(t, []example{
			{`[[:` + name + `:]]`, "", collected(all)},
			{`[^[:` + name + `:]]`, "", collected(but(all))},
			{`[+[:` + name + `:]=]`, "", collected("+=" + all)},
			{`[[:` + name + `:]-z]`, "", collected("-z" + all)},
			{`[[:` + name + `:]-]`, "", collected("-" + all)},
			{`[[:` + name + `:]--0]`, "", collected("-./0" + all)},
			{`[[:` + name + `:][:digit:]]`, "", collected(all + digits)},
			{`[[:` + name + `:]]]`, "", "0a:(" + setOf(all) + "b5d)"},
			{`[:` + name + `:]`, "", collected(":" + name)},
		})
	}
	checkAll(t, []example{
		{`[[:foo:]]`, "", "0a:(" + setOf("[:fo") + "b5d)"},
		{`[[:Alpha:]]`, "", "0a:(" + setOf("[:Alpha") + "b5d)"},
		{`[[::]]`, "", "0a:(" + setOf("[:") + "b5d)"},
		{`[[:alpha]]`, "", "0a:(" + setOf("[:alph") + "b5d)"},
		{`[[:alpha:x]]`, "", "0a:(" + setOf("[:alphx") + "b5d)"},
		{`[[alpha:]]`, "", "0a:(" + setOf("[:alph") + "b5d)"},
		{`[[:]`, "", collected("[:")},
		{`[A-[:digit:]]`, "", "0a:(" + setOf(between('A', '[')+":digt") + "b5d)"},
		{`[\[:digit:]]`, "", collected(`\` + digits)},
	})
}

// TestCollectionsThatDoNotEnd: the sign is itself, and what stands behind it is read as any pattern is.
func TestCollectionsThatDoNotEnd(t *testing.T) {
	checkAll(t, []example{
		{`[`, "", "0a:b5b"},
		{`[a`, "", "0a:(b5bb61)"},
		{`[]`, "", "0a:(b5bb5d)"},
		{`[^`, "", "0a:(b5bb5e)"},
		{`[^]`, "", "0a:(b5bb5eb5d)"},
		{`[]a`, "", "0a:(b5bb5db61)"},
		{`[^]a`, "", "0a:(b5bb5eb5db61)"},
		{`[a\]`, "", "0a:(b5bb61b5d)"},
		{`[\]`, "", "0a:(b5bb5d)"},
		{`[\\\]`, "", "0a:(b5bb5cb5d)"},
		{`[a-`, "", "0a:(b5bb61b2d)"},
		{`[z-a`, "", "0a:(b5bb7ab2db61)"},
		{`[z-a\]`, "", "0a:(b5bb7ab2db61b5d)"},
		{`[a-\]`, "", "0a:(b5bb61b2db5d)"},
		{`[.*`, "", "0a:(b5b{0,-1}.)"},
		{`[*`, "", "0a:{0,-1}b5b"},
		{`[\+`, "", "0a:{1,-1}b5b"},
		{`[\d`, "", "0a:(b5b" + setOf("0123456789") + ")"},
		{`[\y`, "", "30@1"},
		{`[\`, "", "30@1"},
		{`[$`, "", "0a:(b5b$)"},
		{`[[:alpha:]`, "", "0a:(b5b" + setOf(":alph") + ")"},
		{`[[:digit:`, "", "0a:(b5bb5b" + bytesText(":digit:") + ")"},
		{`[[[`, "", "0a:(b5bb5bb5b)"},
		{`[[a\]`, "", "0a:(b5bb5bb61b5d)"},
		{`\([a\)`, "", "1a:<1(b5bb61)>"},
		{`[a\v|b`, "", "0a:((b5bb61)|b62)"},
		{`[a\ca`, "", "0i:(b5bb61b61)"},
		{`\v[(]`, "", collected("(")},
		{`\v([a)`, "", "1a:<1(b5bb61)>"},
		{`\V\[a`, "", "0a:(b5bb61)"},
		{`\Va\[`, "", "0a:(b61b5b)"},
	})
}
