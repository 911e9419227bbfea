package subst_test

import (
	"fmt"
	"strings"
	"testing"

	"emendator/api"
	"emendator/tmpl"
)

func TestYesAndNo(t *testing.T) {
	checkAsked(t, "a", "b", "aaa", "yyy", "bbb, 3, 3")
	checkAsked(t, "a", "b", "aaa", "nnn", "aaa, 0, 3")
	checkAsked(t, "a", "b", "aaa", "yny", "bab, 2, 3")
	checkAsked(t, "a", "b", "aaa", "nyn", "aba, 1, 3")
	checkAsked(t, "a", "b", "xaxax", "ny", "xaxbx, 1, 2")
	checkAsked(t, "a", "b", "xaxax", "yn", "xbxax, 1, 2")
	checkAsked(t, "a", `<&>\r`, "xaxax", "ny", "xax<a>|x, 1, 2")
}

// TestAllAnswered: this one and all behind it, unasked.
func TestAllAnswered(t *testing.T) {
	checkAsked(t, "a", "b", "aaa", "a", "bbb, 3, 1, all")
	checkAsked(t, "a", "b", "aaa", "annn", "bbb, 3, 1, all")
	checkAsked(t, "a", "b", "aaa", "aq", "bbb, 3, 1, all")
	checkAsked(t, "a", "b", "aaa", "al", "bbb, 3, 1, all")
	checkAsked(t, "a", "b", "aaa", "na", "abb, 2, 2, all")
	checkAsked(t, "a", "b", "aaa", "nna", "aab, 1, 3, all")
	checkAsked(t, "a", "b", "aaa", "yyanq", "bbb, 3, 3, all")
	checkAsked(t, "x*", "-", "axb", "na", "a-b-, 2, 2, all")
}

// TestLastAnswered: this one, and no other.
func TestLastAnswered(t *testing.T) {
	checkAsked(t, "a", "b", "aaa", "l", "baa, 1, 1, over")
	checkAsked(t, "a", "b", "aaa", "lyy", "baa, 1, 1, over")
	checkAsked(t, "a", "b", "aaa", "nl", "aba, 1, 2, over")
	checkAsked(t, "a", "b", "aaa", "yl", "bba, 2, 2, over")
	checkAsked(t, "a", "b", "aaa", "nnl", "aab, 1, 3, over")
	checkAsked(t, "a", "b", "aaa", "nnly", "aab, 1, 3, over")
}

func TestQuitAnswered(t *testing.T) {
	checkAsked(t, "a", "b", "aaa", "q", "aaa, 0, 1, over")
	checkAsked(t, "a", "b", "aaa", "qyy", "aaa, 0, 1, over")
	checkAsked(t, "a", "b", "aaa", "yq", "baa, 1, 2, over")
	checkAsked(t, "a", "b", "aaa", "ynq", "baa, 1, 3, over")
	checkAsked(t, "a", "b", "aaa", "nyqa", "aba, 1, 3, over")
}

// TestAnyOtherAnswer: each byte but y, n, a and l is as q.
func TestAnyOtherAnswer(t *testing.T) {
	for n := range 256 {
		c := string([]byte{byte(n)})
		if strings.Contains("ynal", c) {
			continue
		}
		checkAsked(t, "a", "b", "aaa", c+"yy", "aaa, 0, 1, over")
		checkAsked(t, "a", "b", "aaa", "y"+c+"y", "baa, 1, 2, over")
		checkAsked(t, "a", "b", "aaa", "ny"+c, "aba, 1, 3, over")
		checkAskedFirst(t, "a", "b", "aaa", c+"y", "aaa, 0, 1, over")
	}
}

// TestNoAnswerLeft: as q, but none is used.
func TestNoAnswerLeft(t *testing.T) {
	checkAsked(t, "a", "b", "aaa", "", "aaa, 0, 0, over")
	checkAsked(t, "a", "b", "aaa", "y", "baa, 1, 1, over")
	checkAsked(t, "a", "b", "aaa", "n", "aaa, 0, 1, over")
	checkAsked(t, "a", "b", "aaa", "ny", "aba, 1, 2, over")
	checkAsked(t, "x*", "-", "axb", "yy", "-a-b, 2, 2, over")
	checkAskedFirst(t, "a", "b", "aaa", "", "aaa, 0, 0, over")
}

// TestAnswersThatSuffice: with the last match answered there is nothing more to ask, nor is it over.
func TestAnswersThatSuffice(t *testing.T) {
	checkAsked(t, "a", "b", "aab", "yy", "bbb, 2, 2")
	checkAsked(t, "a", "b", "aab", "nn", "aab, 0, 2")
	checkAsked(t, "x*", "-", "axb", "yyy", "-a-b-, 3, 3")
	checkAsked(t, "x*", "-", "xx", "y", "-, 1, 1")
}

func TestMoreAnswersThanAsked(t *testing.T) {
	checkAsked(t, "a", "b", "aab", "yyy", "bbb, 2, 2")
	checkAsked(t, "a", "b", "aab", "nyqqq", "abb, 1, 2")
	checkAsked(t, "x*", "-", "xxa", "yyyyyy", "-a-, 2, 2")
	checkAsked(t, "z", "b", "aab", "yyy", "aab, 0, 0")
}

// TestFirstIsAsked: with one match alone there is one question alone.
func TestFirstIsAsked(t *testing.T) {
	checkAskedFirst(t, "a", "b", "aaa", "yyy", "baa, 1, 1")
	checkAskedFirst(t, "a", "b", "aaa", "nyy", "aaa, 0, 1")
	checkAskedFirst(t, "a", "b", "aaa", "aaa", "baa, 1, 1, all")
	checkAskedFirst(t, "a", "b", "aaa", "lyy", "baa, 1, 1, over")
	checkAskedFirst(t, "a", "b", "aaa", "qyy", "aaa, 0, 1, over")
	checkAskedFirst(t, "x*", "-", "axb", "ny", "axb, 0, 1")
}

// TestNotAsked: answers mean nothing then.
func TestNotAsked(t *testing.T) {
	for _, answers := range []string{"", "n", "nnn", "q", "l", "a", "\x00"} {
		check(t, asking{p: read(t, "a"), l: tmpl.Parse("b"), line: "aaa", all: true, answers: []byte(answers)}, "bbb, 3, 0")
		check(t, asking{p: read(t, "a"), l: tmpl.Parse("b"), line: "aaa", answers: []byte(answers)}, "baa, 1, 0")
	}
}

// TestPassedOverIsNotAsked: for an empty match at the end of the one ahead no answer is used.
func TestPassedOverIsNotAsked(t *testing.T) {
	checkAsked(t, "x*", "-", "x", "yq", "-, 1, 1")
	checkAsked(t, "x*", "-", "xa", "yl", "-a-, 2, 2, over")
	checkAsked(t, "x*", "-", "xax", "yny", "-ax, 1, 2")
}

// TestErrorsWhileAsked: match.From's error comes only if a match is still looked for.
func TestErrorsWhileAsked(t *testing.T) {
	line := "ff" + endless
	checkAsked(t, costly, "-", line, "yy", errSteps)
	checkAsked(t, costly, "-", line, "nn", errSteps)
	checkAsked(t, costly, "-", line, "a", errSteps)
	checkAsked(t, costly, "-", line, "yl", "--"+endless+", 2, 2, over")
	checkAsked(t, costly, "-", line, "yq", "-f"+endless+", 1, 2, over")
	checkAsked(t, costly, "-", line, "y", "-f"+endless+", 1, 1, over")
	checkAskedFirst(t, costly, "-", line, "a", "-f"+endless+", 1, 1, all")
	checkAll(t, costly, "-", line, errSteps)
	checkFirst(t, costly, "-", line, "-f"+endless+", 1, 0")
	checkAll(t, costly, "-", endless+"ff", errSteps)
	checkFirst(t, costly, "-", endless+"ff", errSteps)
	checkAsked(t, costly, "-", endless+"ff", "", errSteps)
}

// TestEachRowOfAnswers: all rows of up to five answers, on a line of four matches, as a plain walk through them says.
func TestEachRowOfAnswers(t *testing.T) {
	p, l := read(t, "a"), tmpl.Parse("b")
	var each func(answers string)
	each = func(answers string) {
		is := asking{p: p, l: l, line: "a-a-a-a", all: true, ask: true, answers: []byte(answers)}
		check(t, is, walked(answers))
		if len(answers) == 5 {
			return
		}
		for _, c := range []byte{api.AnsYes, api.AnsNo, api.AnsAll, api.AnsLast, api.AnsQuit, 'Y'} {
			each(answers + string([]byte{c}))
		}
	}
	each("")
}

// walked is what comes of four matches: answers as far as y and n go, then the one that ends that.
func walked(answers string) string {
	plain := len(answers) - len(strings.TrimLeft(answers, "yn"))
	is := [4]string{"a", "a", "a", "a"}
	for n := range min(plain, 4) {
		if answers[n] == 'y' {
			is[n] = "b"
		}
	}
	used, tail := min(plain, 4), ""
	if plain < 4 {
		tail = ", over"
		used = min(plain+1, len(answers))
		switch (answers + "q")[plain] {
		case 'a':
			tail = ", all"
			copy(is[plain:], []string{"b", "b", "b", "b"})
		case 'l':
			is[plain] = "b"
		}
	}
	s := strings.Join(is[:], "-")
	return fmt.Sprintf("%s, %d, %d%s", s, strings.Count(s, "b"), used, tail)
}
