package addr_test

import (
	"strings"
	"testing"

	"emendator/api"
)

func TestParseExample(t *testing.T) {
	checkParse(t, "2,$-1d", 5, line(2), off(end(), -1))
}

// TestNames: the numbers that DOC.md gives the kinds of addresses, and the errors.
func TestNames(t *testing.T) {
	for i, kind := range []uint8{api.AdLine, api.AdDot, api.AdEnd, api.AdMark, api.AdFore, api.AdBack} {
		if int(kind) != i+1 {
			t.Errorf("kind %d, want %d", kind, i+1)
		}
	}
	if api.ErrRange != 140 || api.ErrAddr != 141 {
		t.Errorf("errors %d, %d", api.ErrRange, api.ErrAddr)
	}
}

func TestParseOne(t *testing.T) {
	checkParse(t, "1", 1, line(1))
	checkParse(t, "0", 1, line(0))
	checkParse(t, "007", 3, line(7))
	checkParse(t, "2000d", 4, line(2000))
	checkParse(t, ".", 1, dot())
	checkParse(t, "$", 1, end())
	checkParse(t, "'a", 2, mark('a'))
	checkParse(t, "/ab/", 4, fore("ab"))
	checkParse(t, "?ab?", 4, back("ab"))
}

// TestParseNone: where there is neither an address nor a sign between, there are no addresses; blanks and : are passed over all the same.
func TestParseNone(t *testing.T) {
	checkParse(t, "", 0)
	checkParse(t, "d", 0)
	checkParse(t, "s/a/b/", 0)
	checkParse(t, " \t ", 3)
	checkParse(t, ":", 1)
	checkParse(t, ": :\t:d", 5)
	checkParse(t, "  d 1,2", 2)
	checkParse(t, "*", 0)
	checkParse(t, `\/`, 0)
	checkParse(t, "\x00", 0)
	checkParse(t, "\xff1", 0)
	checkParse(t, "\n1", 0)
	checkParse(t, "\xc2\xa01", 0)
}

// TestParseAhead: blanks and : ahead of all, as many as there are; : nowhere else.
func TestParseAhead(t *testing.T) {
	checkParse(t, ":1", 2, line(1))
	checkParse(t, "::: 1", 5, line(1))
	checkParse(t, " \t: \t:1", 7, line(1))
	checkParse(t, " %", 2, line(1), end())
	checkParse(t, ": %", 3, line(1), end())
	checkParse(t, "1:", 1, line(1))
	checkParse(t, "1,:2", 2, line(1), dot())
	checkParse(t, "1:,2", 1, line(1))
	checkParse(t, "1, :2", 3, line(1), dot())
	checkParse(t, "%:", 1, line(1), end())
	checkParse(t, ":,2", 3, dot(), line(2))
}

// TestParseBlanks: they are passed over around each address, not within one.
func TestParseBlanks(t *testing.T) {
	checkParse(t, "1 , 2 d", 6, line(1), line(2))
	checkParse(t, "1\t;\t2\t", 6, semi(line(1)), line(2))
	checkParse(t, " 1 ,\t 2\t ,  3  d", 15, line(1), line(2), line(3))
	checkParse(t, "1  ", 3, line(1))
	checkParse(t, ".  d", 3, dot())
	checkParse(t, "'a d", 3, mark('a'))
	checkParse(t, "/a/ d", 4, fore("a"))
	checkParse(t, "+1 d", 3, off(dot(), 1))
	checkParse(t, "1 +2", 2, line(1))
	checkParse(t, "1+ 2", 3, off(line(1), 1))
	checkParse(t, "1+2 -1", 4, off(line(1), 2))
	checkParse(t, "+ +", 2, off(dot(), 1))
	checkParse(t, "1 2", 2, line(1))
	checkParse(t, "1\n", 1, line(1))
	checkParse(t, "1\v,2", 1, line(1))
	checkParse(t, "1\r,2", 1, line(1))
}

// TestParseAll: % is the whole text, if it stands first, and ends there.
func TestParseAll(t *testing.T) {
	checkParse(t, "%", 1, line(1), end())
	checkParse(t, "%d", 1, line(1), end())
	checkParse(t, "% \t d", 4, line(1), end())
	checkParse(t, "%,3", 1, line(1), end())
	checkParse(t, "% ,3", 2, line(1), end())
	checkParse(t, "%;3", 1, line(1), end())
	checkParse(t, "%+1", 1, line(1), end())
	checkParse(t, "%%", 1, line(1), end())
	checkParse(t, "%5", 1, line(1), end())
	checkParse(t, "%1234567890", 1, line(1), end())
	checkParse(t, "%'", 1, line(1), end())
	checkParse(t, "1%", 1, line(1))
	checkParse(t, "1,%", 2, line(1), dot())
	checkParse(t, ",%", 1, dot(), dot())
	checkParse(t, "+%", 1, off(dot(), 1))
}

// TestParseSigns: , and ; between, which the address ahead is told of.
func TestParseSigns(t *testing.T) {
	checkParse(t, "1,2", 3, line(1), line(2))
	checkParse(t, "1;2", 3, semi(line(1)), line(2))
	checkParse(t, "1,2;3,4;5", 9, line(1), semi(line(2)), line(3), semi(line(4)), line(5))
	checkParse(t, ".,$", 3, dot(), end())
	checkParse(t, "'a,'b", 5, mark('a'), mark('b'))
	checkParse(t, "/a/;?b?", 7, semi(fore("a")), back("b"))
	checkParse(t, "$;.", 3, semi(end()), dot())
	checkParse(t, "1+1;-2", 6, semi(off(line(1), 1)), off(dot(), -2))
}

// TestParseNothingBesideASign: it is the cursor's line.
func TestParseNothingBesideASign(t *testing.T) {
	checkParse(t, ",", 1, dot(), dot())
	checkParse(t, ";", 1, semi(dot()), dot())
	checkParse(t, ",2", 2, dot(), line(2))
	checkParse(t, "2,", 2, line(2), dot())
	checkParse(t, ";2", 2, semi(dot()), line(2))
	checkParse(t, "2;", 2, semi(line(2)), dot())
	checkParse(t, "2,d", 2, line(2), dot())
	checkParse(t, ",,", 2, dot(), dot(), dot())
	checkParse(t, ";,;", 3, semi(dot()), dot(), semi(dot()), dot())
	checkParse(t, "1,,3", 4, line(1), dot(), line(3))
	checkParse(t, " , d", 3, dot(), dot())
	checkParse(t, "1, ;d", 4, line(1), semi(dot()), dot())
	checkParse(t, ", ", 2, dot(), dot())
}

func TestParseOffsets(t *testing.T) {
	checkParse(t, "1+2", 3, off(line(1), 2))
	checkParse(t, "1-2", 3, off(line(1), -2))
	checkParse(t, ".+", 2, off(dot(), 1))
	checkParse(t, "$-", 2, off(end(), -1))
	checkParse(t, "'a+3", 4, off(mark('a'), 3))
	checkParse(t, "/a/+3", 5, off(fore("a"), 3))
	checkParse(t, "?a?-3", 5, off(back("a"), -3))
	checkParse(t, "1+0", 3, line(1))
	checkParse(t, "1+007", 5, off(line(1), 7))
}

// TestParseOffsetsTogether: they are all added, each without a number being 1.
func TestParseOffsetsTogether(t *testing.T) {
	checkParse(t, "1+2-5", 5, off(line(1), -3))
	checkParse(t, ".++", 3, off(dot(), 2))
	checkParse(t, ".--", 3, off(dot(), -2))
	checkParse(t, ".+-", 3, dot())
	checkParse(t, ".+-3", 4, off(dot(), -2))
	checkParse(t, ".-+3", 4, off(dot(), 2))
	checkParse(t, "$-1+2-3+4", 9, off(end(), 2))
	checkParse(t, "$--3-+2", 7, off(end(), -3))
	checkParse(t, "$+999999999+999999999-1", 23, off(end(), 1999999997))
}

// TestParseOffsetsAlone: they are of the cursor's line, also if they are none together.
func TestParseOffsetsAlone(t *testing.T) {
	checkParse(t, "+", 1, off(dot(), 1))
	checkParse(t, "-", 1, off(dot(), -1))
	checkParse(t, "+3", 2, off(dot(), 3))
	checkParse(t, "-3d", 2, off(dot(), -3))
	checkParse(t, "+0", 2, dot())
	checkParse(t, "-0", 2, dot())
	checkParse(t, "+-", 2, dot())
	checkParse(t, "-,+", 3, off(dot(), -1), off(dot(), 1))
	checkParse(t, "1;+0", 4, semi(line(1)), dot())
	checkParse(t, ": +2", 4, off(dot(), 2))
}

// TestParseDigits: 1 to 9 of them, noughts ahead among them.
func TestParseDigits(t *testing.T) {
	checkParse(t, "999999999", 9, line(999999999))
	checkParse(t, "123456789d", 9, line(123456789))
	checkParse(t, "000000001", 9, line(1))
	checkParse(t, "1,123456789", 11, line(1), line(123456789))
	checkParse(t, "+999999999", 10, off(dot(), 999999999))
	checkParse(t, "$-123456789", 11, off(end(), -123456789))
	checkParse(t, "999999999+999999999", 19, off(line(999999999), 999999999))
	for _, s := range []string{"1000000000", "1234567890", "0000000001", "0000000000", "12345678901", "4294967297", "9999999999d",
		"9223372036854775808", "18446744073709551617", strings.Repeat("0", 1000) + "1", strings.Repeat("9", 100000)} {
		checkNoAddress(t, s)
		checkNoAddress(t, ": "+s)
		checkNoAddress(t, "1,"+s)
		checkNoAddress(t, s+",1")
		checkNoAddress(t, "1; "+s+" d")
		checkNoAddress(t, "+"+s)
		checkNoAddress(t, "-"+s)
		checkNoAddress(t, ".+1-"+s)
		checkNoAddress(t, "/a/+"+s+"+2")
		checkNoAddress(t, "1,$+"+s)
	}
}

// TestParseMarks: any byte is a name here; there must be one.
func TestParseMarks(t *testing.T) {
	for c := range 256 {
		checkParse(t, "'"+string([]byte{byte(c)})+"+1,3", 6, off(mark(byte(c)), 1), line(3))
	}
	checkParse(t, "''", 2, mark('\''))
	checkParse(t, "' ", 2, mark(' '))
	checkParse(t, "',2", 2, mark(','))
	checkParse(t, "'a5", 2, mark('a'))
	checkParse(t, "'ab", 2, mark('a'))
	checkNoAddress(t, "'")
	checkNoAddress(t, " :'")
	checkNoAddress(t, "1,'")
	checkNoAddress(t, "1; '")
	checkNoAddress(t, "'a,'")
}

// TestParsePatterns: they are what Split makes of them.
func TestParsePatterns(t *testing.T) {
	checkParse(t, "/a b/d", 5, fore("a b"))
	checkParse(t, "/a,b;c/,2", 9, fore("a,b;c"), line(2))
	checkParse(t, "/a?b/", 5, fore("a?b"))
	checkParse(t, "?a/b?", 5, back("a/b"))
	checkParse(t, `/a\/b/+1`, 8, off(fore("a/b"), 1))
	checkParse(t, `?a\?b?`, 6, back("a?b"))
	checkParse(t, `/a\?b/`, 6, fore(`a\?b`))
	checkParse(t, `?a\/b?`, 6, back(`a\/b`))
	checkParse(t, `/\(a\)\\/`, 9, fore(`\(a\)\\`))
	checkParse(t, "/\x00\xff\n/", 5, fore("\x00\xff\n"))
	checkParse(t, "//", 2, fore(""))
	checkParse(t, "??", 2, back(""))
	checkParse(t, "//;//", 5, semi(fore("")), fore(""))
	checkParse(t, "/ /", 3, fore(" "))
	checkParse(t, "/a/5", 3, fore("a"))
	checkParse(t, "/a/b/", 3, fore("a"))
	checkParse(t, "/a//b/", 3, fore("a"))
	checkParse(t, `/\[/`, 4, fore(`\[`))
	checkParse(t, `/\(/`, 4, fore(`\(`))
}

// TestParsePatternsNotClosed: all the rest is theirs.
func TestParsePatternsNotClosed(t *testing.T) {
	checkParse(t, "/", 1, fore(""))
	checkParse(t, "?", 1, back(""))
	checkParse(t, "/ab", 3, fore("ab"))
	checkParse(t, "?ab d, 1 ", 9, back("ab d, 1 "))
	checkParse(t, `/a\/`, 4, fore("a/"))
	checkParse(t, `/a\`, 3, fore(`a\`))
	checkParse(t, `/\`, 2, fore(`\`))
	checkParse(t, `?a\\`, 4, back(`a\\`))
	checkParse(t, "1;/a+2", 6, semi(line(1)), fore("a+2"))
	checkParse(t, "/a ", 3, fore("a "))
}

// TestParseEnds: behind an address comes an offset, or a sign between; anything else is not theirs, be it an address itself.
func TestParseEnds(t *testing.T) {
	for _, ahead := range []struct {
		s string
		a api.Addr
	}{{"12", line(12)}, {".", dot()}, {"$", end()}, {"'x", mark('x')}, {"/x/", fore("x")}, {"?x?", back("x")}, {"+2", off(dot(), 2)}, {"'1+2", off(mark('1'), 2)}} {
		for _, rest := range []string{"", "d", "'", "'a", "/", "/a/", "?", "$", ".", "%", ":", ":1", "!", "~", "&&", `\`, "\x00", "\xff", "\n", "=", "_", "(", "#"} {
			checkParse(t, ahead.s+rest, len(ahead.s), ahead.a)
			checkParse(t, ahead.s+" "+rest, len(ahead.s)+1, ahead.a)
			checkParse(t, "1, "+ahead.s+rest, len(ahead.s)+3, line(1), ahead.a)
		}
	}
}

// TestParseNothingBehindTheEnd: what is not theirs is not read, be it wrong.
func TestParseNothingBehindTheEnd(t *testing.T) {
	checkParse(t, "1d1234567890", 1, line(1))
	checkParse(t, "1:1234567890", 1, line(1))
	checkParse(t, "1 1234567890", 2, line(1))
	checkParse(t, "d'", 0)
	checkParse(t, ".'", 1, dot())
	checkParse(t, "1,d'", 2, line(1), dot())
}

// TestParseMany: of many addresses, and of many offsets, all are read.
func TestParseMany(t *testing.T) {
	const many = 100000
	want := []api.Addr{}
	for range many {
		want = append(want, semi(off(line(7), -1)))
	}
	checkParse(t, strings.Repeat("7-;", many), 3*many, append(want, dot())...)
	checkParse(t, "1"+strings.Repeat("+2--", many), 1+4*many, line(1))
	checkParse(t, "1"+strings.Repeat("+999999999", many), 1+10*many, off(line(1), 999999999*many))
	checkParse(t, "1"+strings.Repeat("-999999999", many), 1+10*many, off(line(1), -999999999*many))
	checkParse(t, strings.Repeat(" :", many)+"$", 2*many+1, end())
}
