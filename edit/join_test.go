package edit_test

import (
	"strings"
	"testing"
)

func TestJoin(t *testing.T) {
	for _, row := range []struct{ a, b, want string }{
		{"a", "b", "a b"},
		{"a b", "c d ", "a b c d "},
		// b without what it begins with
		{"a", "  b", "a b"},
		{"a", "\t \tb", "a b"},
		{"a", " b c", "a b c"},
		{"a", "\vb", "a \vb"},
		{"a", "\rb", "a \rb"},
		{"a", "\xa0b", "a \xa0b"},
		{"a", "\x00b", "a \x00b"},
		// nothing is left of b
		{"a", "", "a"},
		{"a", " ", "a"},
		{"a", "\t", "a"},
		{"a", " \t\t  ", "a"},
		{"a ", "  ", "a "},
		// a is empty, or ends with 20 or 09
		{"", "", ""},
		{"", "b", "b"},
		{"", "  b", "b"},
		{"", "  ", ""},
		{"", ")", ")"},
		{"a ", "b", "a b"},
		{"a\t", "b", "a\tb"},
		{"a  ", "  b", "a  b"},
		{" ", "b", " b"},
		{"\t", "\tb", "\tb"},
		{"a\v", "b", "a\v b"},
		{"a\n", "b", "a\n b"},
		{"a\xa0", "b", "a\xa0 b"},
		{" a", "b", " a b"},
		// what is left begins with )
		{"a", ")", "a)"},
		{"a", ")b", "a)b"},
		{"a", "  )b", "a)b"},
		{"a", "\t)", "a)"},
		{"a ", " )", "a )"},
		{"a", "b)", "a b)"},
		{"a", "(", "a ("},
		{"a", "]", "a ]"},
		{"a)", "b", "a) b"},
		{")", "(", ") ("},
	} {
		if is := join(t, row.a, row.b, false); is != row.want {
			t.Errorf("Join of %q, %q: %q, want %q", row.a, row.b, is, row.want)
		}
		if is := join(t, row.a, row.b, true); is != row.a+row.b {
			t.Errorf("Join of %q, %q, bold: %q", row.a, row.b, is)
		}
	}
}

// TestJoinEachByte: which bytes are passed over, which ones stand ahead or behind with nothing between.
func TestJoinEachByte(t *testing.T) {
	for n := range 256 {
		c := string([]byte{byte(n)})
		want := "x " + c + "y"
		switch c {
		case " ", "\t":
			want = "x y"
		case ")":
			want = "x)y"
		}
		if is := join(t, "x", c+"y", false); is != want {
			t.Errorf("Join ahead of %q: %q, want %q", c, is, want)
		}
		want = "x" + c + " y"
		if c == " " || c == "\t" {
			want = "x" + c + "y"
		}
		if is := join(t, "x"+c, " y", false); is != want {
			t.Errorf("Join behind %q: %q, want %q", c, is, want)
		}
	}
}

// TestJoinLong: no length is too great here.
func TestJoinLong(t *testing.T) {
	a, b := strings.Repeat("a", 1<<20), strings.Repeat(" ", 1<<20)
	for _, row := range []struct {
		a, b string
		bold bool
		want string
	}{
		{a, b + "b", false, a + " b"},
		{a, b, false, a},
		{a, b, true, a + b},
		{b, b + b, false, b},
		{b, a, false, b + a},
	} {
		if is := join(t, row.a, row.b, row.bold); is != row.want {
			t.Errorf("Join of %d bytes, %d bytes, %t: %d bytes", len(row.a), len(row.b), row.bold, len(is))
		}
	}
}
