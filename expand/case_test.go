package expand_test

import (
	"slices"
	"strings"
	"testing"

	"emendator/api"
)

func TestNextByte(t *testing.T) {
	checkPlain(t, pieces(casing('u'), text("ab")), "Ab")
	checkPlain(t, pieces(casing('l'), text("AB")), "aB")
	checkPlain(t, pieces(casing('u'), text("AB")), "AB")
	checkPlain(t, pieces(casing('l'), text("ab")), "ab")
	checkPlain(t, pieces(text("ab"), casing('u'), text("cd")), "abCd")
	checkPlain(t, pieces(casing('u'), text("a"), text("b")), "Ab")
	check(t, pieces(casing('u'), group(0)), "ab", remembering(0, 2), "Ab")
	check(t, pieces(casing('l'), group(0)), "AB", remembering(0, 2), "aB")
	check(t, pieces(casing('u'), group(1), group(0)), "ab", remembering(0, 1, 1, 2), "Ba")
}

// TestNextByteIsUsedUp: by any byte, a letter or not.
func TestNextByteIsUsedUp(t *testing.T) {
	for n := range 256 {
		c := string([]byte{byte(n)})
		if strings.ContainsAny(c, "abcdefghijklmnopqrstuvwxyzABCDEFGHIJKLMNOPQRSTUVWXYZ") {
			continue
		}
		checkPlain(t, pieces(casing('u'), text(c+"ab")), c+"ab")
		checkPlain(t, pieces(casing('l'), text(c+"AB")), c+"AB")
		checkPlain(t, pieces(casing('L'), casing('u'), text(c+"AB")), c+"ab")
		check(t, pieces(casing('u'), group(0), text("ab")), c, remembering(0, 1), c+"ab")
	}
	checkPlain(t, pieces(casing('u'), text("é")), "é")
	checkPlain(t, pieces(casing('U'), text("é")), "é")
}

// TestNextByteTwice: what is said last holds, and it is said once.
func TestNextByteTwice(t *testing.T) {
	checkPlain(t, pieces(casing('u'), casing('u'), text("ab")), "Ab")
	checkPlain(t, pieces(casing('l'), casing('l'), text("AB")), "aB")
	checkPlain(t, pieces(casing('u'), casing('l'), text("aB")), "aB")
	checkPlain(t, pieces(casing('u'), casing('l'), text("AB")), "aB")
	checkPlain(t, pieces(casing('l'), casing('u'), text("ab")), "Ab")
	checkPlain(t, pieces(casing('l'), casing('u'), text("AB")), "AB")
	checkPlain(t, pieces(casing('u'), text("a"), casing('u'), text("bc")), "ABc")
}

// TestNextByteWaits: what lays no byte does not use it up.
func TestNextByteWaits(t *testing.T) {
	checkPlain(t, pieces(casing('u'), text(""), text("ab")), "Ab")
	checkPlain(t, pieces(casing('u'), split(), text("ab")), "", "Ab")
	checkPlain(t, pieces(casing('l'), split(), split(), text("AB")), "", "", "aB")
	checkPlain(t, pieces(text("x"), casing('u'), split(), text(""), split(), text("ab")), "x", "", "Ab")
	check(t, pieces(casing('u'), group(0), text("cd")), "ab", remembering(1, 1), "Cd")
	check(t, pieces(casing('u'), group(1), text("cd")), "ab", remembering(0, 2), "Cd")
	check(t, pieces(casing('u'), group(0), text("cd")), "ab", remembering(2, 1), "Cd")
	check(t, pieces(casing('u'), group(0), text("cd")), "ab", remembering(0, 3), "Cd")
	check(t, pieces(casing('u'), group(10), text("cd")), "ab", remembering(0, 2), "Cd")
	check(t, pieces(casing('u'), group(-1), text("cd")), "ab", remembering(0, 2), "Cd")
}

// TestCaseAtTheEnd: it lays nothing by itself.
func TestCaseAtTheEnd(t *testing.T) {
	for _, c := range []byte("ulULE\x00") {
		checkPlain(t, pieces(casing(c)), "")
		checkPlain(t, pieces(text("aB"), casing(c)), "aB")
		checkPlain(t, pieces(text("aB"), casing(c), split()), "aB", "")
		checkPlain(t, pieces(text("aB"), casing(c), text("")), "aB")
		checkPlain(t, pieces(text("aB"), casing(c), casing(c)), "aB")
	}
}

func TestAllBytes(t *testing.T) {
	checkPlain(t, pieces(casing('U'), text("aBc-é")), "ABC-é")
	checkPlain(t, pieces(casing('L'), text("AbC-É")), "abc-É")
	checkPlain(t, pieces(text("ab"), casing('U'), text("cd"), text("ef")), "abCDEF")
	checkPlain(t, pieces(text("AB"), casing('L'), text("CD"), text("EF")), "ABcdef")
	checkPlain(t, pieces(casing('U'), text("aB"), casing('L'), text("aB")), "ABab")
	checkPlain(t, pieces(casing('L'), text("aB"), casing('U'), text("aB")), "abAB")
	checkPlain(t, pieces(casing('U'), casing('L'), text("aB")), "ab")
	checkPlain(t, pieces(casing('L'), casing('U'), text("aB")), "AB")
	checkPlain(t, pieces(casing('U'), text("a"), split(), text("b"), split(), text("c")), "A", "B", "C")
	checkPlain(t, pieces(casing('L'), text("A"), split(), text("B"), split(), text("C")), "a", "b", "c")
	check(t, pieces(casing('U'), group(0), text("-x"), group(1)), "abcd", remembering(0, 2, 2, 4), "AB-XCD")
	check(t, pieces(casing('L'), group(0), text("-X"), group(1)), "ABCD", remembering(0, 2, 2, 4), "ab-xcd")
}

// TestNextAheadOfAll: what is said of the next byte holds for it; those behind are as is said of all.
func TestNextAheadOfAll(t *testing.T) {
	checkPlain(t, pieces(casing('U'), casing('l'), text("ABcd")), "aBCD")
	checkPlain(t, pieces(casing('L'), casing('u'), text("abCD")), "Abcd")
	checkPlain(t, pieces(casing('U'), casing('u'), text("abcd")), "ABCD")
	checkPlain(t, pieces(casing('L'), casing('l'), text("ABCD")), "abcd")
	checkPlain(t, pieces(casing('U'), text("ab"), casing('l'), text("Cd")), "ABcD")
	checkPlain(t, pieces(casing('L'), text("AB"), casing('u'), text("cD"), casing('u'), text("eF")), "abCdEf")
	checkPlain(t, pieces(casing('U'), casing('l'), split(), text("Ab")), "", "aB")
	checkPlain(t, pieces(casing('L'), casing('u'), text(""), split(), text("aB")), "", "Ab")
}

// TestAllTakesNextAway: what was said of the next byte is gone with what is said of all.
func TestAllTakesNextAway(t *testing.T) {
	checkPlain(t, pieces(casing('l'), casing('U'), text("ab")), "AB")
	checkPlain(t, pieces(casing('u'), casing('L'), text("AB")), "ab")
	checkPlain(t, pieces(casing('u'), casing('U'), text("ab")), "AB")
	checkPlain(t, pieces(casing('l'), casing('L'), text("AB")), "ab")
	checkPlain(t, pieces(casing('l'), split(), casing('U'), text("ab")), "", "AB")
	checkPlain(t, pieces(casing('u'), text(""), casing('L'), text("AB")), "ab")
	checkPlain(t, pieces(casing('L'), casing('u'), casing('L'), text("AB")), "ab")
	checkPlain(t, pieces(casing('U'), casing('l'), casing('U'), text("ab")), "AB")
}

// TestOtherCases: any other C than u, l, U, L ends what was said, of all and of the next byte.
func TestOtherCases(t *testing.T) {
	for n := range 256 {
		c := byte(n)
		if strings.IndexByte("ulUL", c) >= 0 {
			continue
		}
		checkPlain(t, pieces(casing(c), text("aB")), "aB")
		checkPlain(t, pieces(casing('U'), text("aB"), casing(c), text("aB")), "ABaB")
		checkPlain(t, pieces(casing('L'), text("aB"), casing(c), text("Ba")), "abBa")
		checkPlain(t, pieces(casing('u'), casing(c), text("aB")), "aB")
		checkPlain(t, pieces(casing('l'), casing(c), text("Ba")), "Ba")
		checkPlain(t, pieces(casing('U'), casing('l'), casing(c), text("AbC")), "AbC")
		checkPlain(t, pieces(casing('L'), casing('u'), casing(c), text("aBc")), "aBc")
		checkPlain(t, pieces(casing(c), casing('u'), text("abC")), "AbC")
		checkPlain(t, pieces(casing(c), casing('U'), text("ab")), "AB")
		checkPlain(t, pieces(casing('U'), casing(c), split(), text("a")), "", "a")
	}
}

// TestEachByteInEachCase: letters are A to Z and a to z alone; any other byte is as it is.
func TestEachByteInEachCase(t *testing.T) {
	for n := range 256 {
		c := byte(n)
		great, small := c, c
		if 'a' <= c && c <= 'z' {
			great = c - 32
		}
		if 'A' <= c && c <= 'Z' {
			small = c + 32
		}
		for _, row := range []struct {
			said        []api.Tm
			first, then byte
		}{
			{nil, c, c},
			{pieces(casing('u')), great, c},
			{pieces(casing('l')), small, c},
			{pieces(casing('U')), great, great},
			{pieces(casing('L')), small, small},
			{pieces(casing('E')), c, c},
			{pieces(casing('U'), casing('l')), small, great},
			{pieces(casing('L'), casing('u')), great, small},
		} {
			three := string([]byte{c, c, c})
			want := string([]byte{row.first, row.then, row.then})
			checkPlain(t, append(slices.Clone(row.said), text(three)), want)
			check(t, append(slices.Clone(row.said), group(9), group(0)), three, nine(), want)
		}
	}
}

// nine is a match in whose group 9 stands the first of three bytes, in group 0 the others.
func nine() api.Match {
	m := remembering(1, 3)
	m.Begin[9], m.End[9] = 0, 1
	return m
}
