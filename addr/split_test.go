package addr_test

import (
	"math"
	"strings"
	"testing"
)

func TestSplit(t *testing.T) {
	checkSplit(t, "a/b/c", 0, '/', "a", 2)
	checkSplit(t, "a/b/c", 2, '/', "b", 4)
	checkSplit(t, "ab?cd", 0, '?', "ab", 3)
	checkSplit(t, "a/b?c", 0, '?', "a/b", 4)
	checkSplit(t, "#ab#", 1, '#', "ab", 4)
}

// TestSplitSignAtOnce: nothing stands ahead of it.
func TestSplitSignAtOnce(t *testing.T) {
	checkSplit(t, "/", 0, '/', "", 1)
	checkSplit(t, "//", 0, '/', "", 1)
	checkSplit(t, "//", 1, '/', "", 2)
	checkSplit(t, "a/b", 1, '/', "", 2)
}

// TestSplitNoSign: all the rest, and its end.
func TestSplitNoSign(t *testing.T) {
	checkSplit(t, "", 0, '/', "", 0)
	checkSplit(t, "abc", 0, '/', "abc", 3)
	checkSplit(t, "/abc", 1, '/', "abc", 4)
	checkSplit(t, "a/", 2, '/', "", 2)
}

// TestSplitEscapedSign: a sign with a backslash ahead is that sign, and nothing ends there.
func TestSplitEscapedSign(t *testing.T) {
	checkSplit(t, `a\/b/c`, 0, '/', "a/b", 5)
	checkSplit(t, `\//`, 0, '/', "/", 3)
	checkSplit(t, `\/`, 0, '/', "/", 2)
	checkSplit(t, `\/\/`, 0, '/', "//", 4)
	checkSplit(t, `a\?b?`, 0, '?', "a?b", 5)
}

// TestSplitEscapedOthers: of any other byte the backslash stays.
func TestSplitEscapedOthers(t *testing.T) {
	checkSplit(t, `a\nb/`, 0, '/', `a\nb`, 5)
	checkSplit(t, `\?/`, 0, '/', `\?`, 3)
	checkSplit(t, `\/?`, 0, '?', `\/`, 3)
	checkSplit(t, `\(a\)\1/`, 0, '/', `\(a\)\1`, 8)
	checkSplit(t, "\\\x00/", 0, '/', "\\\x00", 3)
	checkSplit(t, "\\\xff/", 0, '/', "\\\xff", 3)
	for c := range 256 {
		if c != '/' {
			s := string([]byte{'\\', byte(c)})
			checkSplit(t, s+"x/y", 0, '/', s+"x", 4)
		}
	}
}

// TestSplitTwoBackslashes: the first belongs to the second, so neither says anything of a sign behind them.
func TestSplitTwoBackslashes(t *testing.T) {
	checkSplit(t, `a\\/b`, 0, '/', `a\\`, 4)
	checkSplit(t, `\\\/b/`, 0, '/', `\\/b`, 6)
	checkSplit(t, `\\\\/`, 0, '/', `\\\\`, 5)
	checkSplit(t, `\\`, 0, '/', `\\`, 2)
}

// TestSplitBackslashAtTheEnd: it is itself.
func TestSplitBackslashAtTheEnd(t *testing.T) {
	checkSplit(t, `\`, 0, '/', `\`, 1)
	checkSplit(t, `ab\`, 0, '/', `ab\`, 3)
	checkSplit(t, `a\\\`, 0, '/', `a\\\`, 4)
	checkSplit(t, `a\/\`, 0, '/', `a/\`, 4)
	checkSplit(t, `a/\`, 2, '/', `\`, 3)
}

// TestSplitPlace: below 0 it is 0; beyond the text nothing is left.
func TestSplitPlace(t *testing.T) {
	for _, at := range []int{-1, -2, -100, -1 << 32, math.MinInt, math.MinInt + 1} {
		checkSplit(t, "a/b", at, '/', "a", 2)
		checkSplit(t, "", at, '/', "", 0)
	}
	for _, at := range []int{3, 4, 5, 100, 1 << 32, math.MaxInt, math.MaxInt - 1} {
		checkSplit(t, "a/b", at, '/', "", 3)
		checkSplit(t, "", at, '/', "", 0)
	}
	// What stands ahead of the place is not looked at.
	checkSplit(t, `\/b/`, 1, '/', "", 2)
	checkSplit(t, `a\/b/c`, 2, '/', "", 3)
	checkSplit(t, `\\/b`, 1, '/', "/b", 4)
}

// TestSplitAnySign: any byte is a sign.
func TestSplitAnySign(t *testing.T) {
	for c := range 256 {
		sign := byte(c)
		if sign == '\\' || sign == 'a' || sign == 'b' {
			continue
		}
		s := string([]byte{sign})
		checkSplit(t, "a"+s+"b", 0, sign, "a", 2)
		checkSplit(t, `a\`+s+"b"+s, 0, sign, "a"+s+"b", 5)
		checkSplit(t, "ab", 0, sign, "ab", 2)
	}
}

// TestSplitBackslashAsSign: each backslash is asked for what stands behind it, so none ends there.
func TestSplitBackslashAsSign(t *testing.T) {
	checkSplit(t, `a\b`, 0, '\\', `a\b`, 3)
	checkSplit(t, `a\\b`, 0, '\\', `a\b`, 4)
	checkSplit(t, `a\\\b`, 0, '\\', `a\\b`, 5)
	checkSplit(t, `a\`, 0, '\\', `a\`, 2)
	checkSplit(t, `\\\`, 0, '\\', `\\`, 3)
}

// TestSplitLong: a text of many bytes is gone through once.
func TestSplitLong(t *testing.T) {
	const many = 1 << 20
	checkSplit(t, strings.Repeat(`\/`, many)+"/", 0, '/', strings.Repeat("/", many), 2*many+1)
	checkSplit(t, strings.Repeat("x", many), 0, '/', strings.Repeat("x", many), many)
}
