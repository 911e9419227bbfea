package match_test

import (
	"fmt"
	"strings"
	"testing"

	"emendator/api"
	"emendator/match"
)

func TestNothingIsAMatch(t *testing.T) {
	checkAt(t, "match", "", 0, "0-0 in 1")
	checkAt(t, "match", "ab", 0, "0-0 in 1")
	checkAt(t, "match", "ab", 1, "1-1 in 1")
	checkAt(t, "match", "ab", 2, "2-2 in 1")
	checkAt(t, "match; any; match", "ab", 0, "0-0 in 1")
}

func TestByte(t *testing.T) {
	checkAt(t, "byte a; match", "ab", 0, "0-1 in 2")
	checkAt(t, "byte a; match", "ab", 1, "none in 1")
	checkAt(t, "byte a; match", "ab", 2, "none in 1")
	checkAt(t, "byte a; match", "", 0, "none in 1")
	checkAt(t, "byte a; byte b; match", "ab", 0, "0-2 in 3")
	checkAt(t, "byte a; byte b; match", "a", 0, "none in 2")
	checkAt(t, "byte a; byte b; match", "ac", 0, "none in 2")
	checkAt(t, "byte a; match", "A", 0, "none in 1")
	checkAt(t, `byte "\x00"; byte "\xff"; byte "\n"; match`, "\x00\xff\n", 0, "0-3 in 4")
}

func TestByteWithFold(t *testing.T) {
	checkFold(t, "byte a; byte B; byte c; byte D; match", "AbcD", 0, "0-4 in 5")
	checkFold(t, "byte a; match", "b", 0, "none in 1")
	checkFold(t, "byte a; match", "", 0, "none in 1")
	for _, pair := range []string{"@`", "[{", "]}", "^~", "\\|", "_\x7f", "0\x10", "\xc1\xe1", " \x00"} {
		p := api.Prog{Code: []api.Inst{{Op: api.InByte, C: pair[0]}, {Op: api.InMatch}}, Fold: true}
		checkCall(t, match.At, p, pair, 0, "0-1 in 2")
		checkCall(t, match.At, p, pair, 1, "none in 1")
	}
}

// sameLetter says again which bytes are the same with Fold.
func sameLetter(a, b byte) bool {
	return a == b || strings.EqualFold(string(rune(a)), string(rune(b))) && a < 0x80 && b < 0x80
}

// TestEachByte: all bytes against all bytes, by InByte and by InSet of one.
func TestEachByte(t *testing.T) {
	for c := range 256 {
		for d := range 256 {
			one := api.Inst{Op: api.InByte, C: byte(c)}
			set := api.Inst{Op: api.InSet, Set: setOf(string([]byte{byte(c)}))}
			for _, i := range []api.Inst{one, set} {
				p := api.Prog{Code: []api.Inst{i, {Op: api.InMatch}}}
				line := string([]byte{byte(d)})
				if _, _, is, _ := match.At(p, line, 0, 2); is != (c == d) {
					t.Errorf("op %d of %#x on %#x: %t", i.Op, c, d, is)
				}
				if _, _, is, _ := match.At(folding(p), line, 0, 2); is != sameLetter(byte(c), byte(d)) {
					t.Errorf("op %d of %#x on %#x with Fold: %t", i.Op, c, d, is)
				}
			}
		}
	}
}

func TestAny(t *testing.T) {
	for c := range 256 {
		checkAt(t, "any; match", string([]byte{byte(c)}), 0, "0-1 in 2")
		checkFold(t, "any; match", string([]byte{byte(c)}), 0, "0-1 in 2")
	}
	checkAt(t, "any; match", "", 0, "none in 1")
	checkAt(t, "any; match", "ab", 2, "none in 1")
	checkAt(t, "any; any; match", "abc", 1, "1-3 in 3")
	checkAt(t, "any; any; match", "abc", 2, "none in 2")
}

func TestSet(t *testing.T) {
	checkAt(t, "set ab; match", "a", 0, "0-1 in 2")
	checkAt(t, "set ab; match", "cb", 1, "1-2 in 2")
	checkAt(t, "set ab; match", "cb", 0, "none in 1")
	checkAt(t, "set ab; match", "cb", 2, "none in 1")
	checkAt(t, "set ab; match", "A", 0, "none in 1")
	checkAt(t, `set ""; match`, "a", 0, "none in 1")
	checkAt(t, `set "\x00\x3f\x40\x7f\x80\xbf\xc0\xff"; set "\x00\xff"; match`, "\xff\x00", 0, "0-2 in 3")
}

// TestSetWithFold: a byte is of a set, if it is itself, or one of its two letters.
func TestSetWithFold(t *testing.T) {
	checkFold(t, "set aB; set aB; set aB; set aB; match", "aAbB", 0, "0-4 in 5")
	checkFold(t, "set aB; match", "c", 0, "none in 1")
	checkFold(t, "set aB; match", "", 0, "none in 1")
	checkFold(t, `set ""; match`, "a", 0, "none in 1")
	checkFold(t, "set @[; match", "`", 0, "none in 1")
	checkFold(t, "set @[; match", "{", 0, "none in 1")
	for _, fold := range []bool{false, true} {
		p := read(t, "[^a]")
		p.Fold = fold
		checkCall(t, match.At, p, "A", 0, "0-1 in 2")
		want := "none in 1"
		if fold {
			want = "0-1 in 2" // its great one is there
		}
		checkCall(t, match.At, p, "a", 0, want)
		p = read(t, "[^aA]")
		p.Fold = fold
		checkCall(t, match.At, p, "aA", 0, "none in 1")
		checkCall(t, match.At, p, "aA", 1, "none in 1")
		checkCall(t, match.At, p, "b", 0, "0-1 in 2")
	}
}

func TestLineBeginsAndEnds(t *testing.T) {
	checkAt(t, "bol; match", "ab", 0, "0-0 in 2")
	checkAt(t, "bol; match", "ab", 1, "none in 1")
	checkAt(t, "bol; match", "ab", 2, "none in 1")
	checkAt(t, "any; bol; match", "ab", 0, "none in 2")
	checkAt(t, "eol; match", "ab", 0, "none in 1")
	checkAt(t, "eol; match", "ab", 1, "none in 1")
	checkAt(t, "eol; match", "ab", 2, "2-2 in 2")
	checkAt(t, "any; any; eol; match", "ab", 0, "0-2 in 4")
	checkAt(t, "bol; eol; match", "", 0, "0-0 in 3")
	checkAt(t, "eol; bol; bol; eol; match", "", 0, "0-0 in 5")
	checkAt(t, "bol; eol; match", "a", 0, "none in 2")
	checkAt(t, "bol; match", "\na", 1, "none in 1")
	checkAt(t, "eol; match", "a\nb", 1, "none in 1")
}

func TestWordsBegin(t *testing.T) {
	for at, want := range []string{"0-0 in 2", "none in 1", "none in 1", "3-3 in 2", "none in 1"} {
		checkAt(t, "bow; match", "ab c", at, want)
		checkFold(t, "bow; match", "ab c", at, want)
	}
	for at, want := range []string{"none in 1", "1-1 in 2", "none in 1", "none in 1"} {
		checkAt(t, "bow; match", " a ", at, want)
	}
	checkAt(t, "bow; match", "", 0, "none in 1")
	checkAt(t, "bow; match", "-", 0, "none in 1")
	checkAt(t, "bow; match", "-", 1, "none in 1")
	checkAt(t, "any; bow; any; match", "-a", 0, "0-2 in 4")
}

func TestWordsEnd(t *testing.T) {
	for at, want := range []string{"none in 1", "none in 1", "2-2 in 2", "none in 1", "4-4 in 2"} {
		checkAt(t, "eow; match", "ab c", at, want)
		checkFold(t, "eow; match", "ab c", at, want)
	}
	for at, want := range []string{"none in 1", "none in 1", "2-2 in 2", "none in 1"} {
		checkAt(t, "eow; match", " a ", at, want)
	}
	checkAt(t, "eow; match", "", 0, "none in 1")
	checkAt(t, "eow; match", "-", 0, "none in 1")
	checkAt(t, "eow; match", "-", 1, "none in 1")
	checkAt(t, "any; eow; match", "a-", 0, "0-1 in 3")
}

// TestWordsOfEachByte: letters, digits and _ are of words, no other byte is.
func TestWordsOfEachByte(t *testing.T) {
	for c := range 256 {
		want := strings.IndexByte("abcdefghijklmnopqrstuvwxyzABCDEFGHIJKLMNOPQRSTUVWXYZ0123456789_", byte(c)) >= 0
		line := string([]byte{byte(c)})
		for where, at := range map[string]int{"bow; match": 0, "eow; match": 1} {
			if _, _, is, _ := match.At(code(where), line, at, 2); is != want {
				t.Errorf("%s on %#x: %t", where, c, is)
			}
		}
		if _, _, is, _ := match.At(code("bow; match"), line+"a", 1, 2); is == want {
			t.Errorf("a word begins behind %#x: %t", c, is)
		}
		if _, _, is, _ := match.At(code("eow; match"), "a"+line, 1, 2); is == want {
			t.Errorf("a word ends ahead of %#x: %t", c, is)
		}
	}
}

func TestSave(t *testing.T) {
	for n := 1; n <= 9; n++ {
		checkAt(t, fmt.Sprintf("any; save %d; any; save %d; any; match", 2*n, 2*n+1), "abc", 0, fmt.Sprintf("0-3 %d:1-2 in 6", n))
	}
	checkAt(t, "save 2; save 3; match", "", 0, "0-0 1:0-0 in 3")
	checkAt(t, "save 2; any; save 3; save 2; any; save 3; match", "ab", 0, "0-2 1:1-2 in 7")
	checkAt(t, "save 2; save 4; any; save 5; any; save 3; match", "ab", 0, "0-2 1:0-2 2:0-1 in 7")
	// Where the match begins and ends is not told by slots 0 and 1.
	checkAt(t, "any; save 0; any; save 1; any; match", "abcd", 1, "1-4 in 6")
}

// TestGroupsThatAreNotWhole: one that was not begun, not ended, or begun again behind its end remembers nothing.
func TestGroupsThatAreNotWhole(t *testing.T) {
	checkAt(t, "save 2; any; match", "a", 0, "0-1 in 3")
	checkAt(t, "any; save 3; match", "a", 0, "0-1 in 3")
	checkAt(t, "save 3; any; save 2; match", "a", 0, "0-1 in 4")
	checkAt(t, "save 3; save 2; any; match", "a", 0, "0-1 1:0-0 in 4")
	checkAt(t, "save 2; any; save 3; save 2; match", "a", 0, "0-1 1:1-1 in 5")
	checkAt(t, "save 2; any; save 3; any; save 2; any; match", "abc", 0, "0-3 in 7")
	checkAt(t, "save 18; any; save 19; any; save 18; save 16; save 17; match", "ab", 0, "0-2 8:2-2 in 8")
}

func TestBack(t *testing.T) {
	for n := 1; n <= 9; n++ {
		again := fmt.Sprintf("save %d; any; any; save %d; back %d; match", 2*n, 2*n+1, n)
		checkAt(t, again, "abab", 0, fmt.Sprintf("0-4 %d:0-2 in 6", n))
		checkAt(t, again, "ababa", 1, fmt.Sprintf("1-5 %d:1-3 in 6", n))
		checkAt(t, again, "abac", 0, "none in 5")
		checkAt(t, again, "aba", 0, "none in 5")
		checkAt(t, again, "ab", 0, "none in 5")
		checkAt(t, again, "abAB", 0, "none in 5")
		checkFold(t, again, "abAB", 0, fmt.Sprintf("0-4 %d:0-2 in 6", n))
		checkFold(t, again, "Ab{aB{", 0, "none in 5")
	}
	checkFold(t, "save 2; any; save 3; back 1; match", "@`", 0, "none in 4")
	checkFold(t, "save 2; any; save 3; back 1; match", "\xc1\xe1", 0, "none in 4")
	// Nothing is remembered, so nothing need come.
	checkAt(t, "save 2; save 3; any; back 1; back 1; match", "a", 0, "0-1 1:0-0 in 6")
	checkAt(t, "save 2; any; save 3; back 1; back 1; match", "aaaa", 0, "0-3 1:0-1 in 6")
	// What is remembered is looked at as it is then.
	checkAt(t, "save 2; any; save 3; save 2; any; save 3; back 1; match", "abb", 0, "0-3 1:1-2 in 8")
}

func TestBackOfWhatIsNotThere(t *testing.T) {
	for n := 1; n <= 9; n++ {
		checkAt(t, fmt.Sprintf("back %d; match", n), "aa", 0, "none in 1")
		checkAt(t, fmt.Sprintf("save %d; back %d; match", 2*n, n), "aa", 0, "none in 2")
		checkAt(t, fmt.Sprintf("save %d; back %d; match", 2*n+1, n), "aa", 0, "none in 2")
		checkAt(t, fmt.Sprintf("save %d; any; save %d; back %d; match", 2*n+1, 2*n, n), "aaa", 0, "none in 4")
		checkAt(t, fmt.Sprintf("save %d; any; save %d; any; save %d; back %d; match", 2*n, 2*n+1, 2*n, n), "aaaa", 0, "none in 6")
	}
	// The slots that lie beside a group's are not its own.
	checkAt(t, "save 3; save 6; save 4; back 2; match", "a", 0, "none in 4")
	checkAt(t, "save 20; save 21; back 9; match", "a", 0, "none in 3")
	checkAt(t, "save 17; save 20; back 9; match", "a", 0, "none in 3")
}

// TestBackOfNought is one that no pattern makes: slot 0 is where the try began, slot 1 nothing, till something is saved there.
func TestBackOfNought(t *testing.T) {
	checkAt(t, "back 0; match", "aa", 0, "none in 1")
	checkAt(t, "any; back 0; match", "aa", 0, "none in 2")
	checkAt(t, "save 1; back 0; match", "aa", 0, "0-0 in 3")
	checkAt(t, "any; save 1; back 0; match", "aa", 0, "0-2 in 4")
	checkAt(t, "any; save 1; back 0; match", "baa", 1, "1-3 in 4")
	checkAt(t, "any; save 1; back 0; match", "aba", 0, "none in 3")
	checkAt(t, "any; save 0; any; save 1; back 0; match", "abb", 0, "0-3 in 6")
	checkAt(t, "save 1; any; save 0; back 0; match", "aaa", 0, "none in 4")
	checkFold(t, "any; save 1; back 0; match", "aA", 0, "0-2 in 4")
}

func TestSaidBeginningAndEnd(t *testing.T) {
	checkAt(t, "any; save 20; any; match", "abc", 0, "1-2 in 4")
	checkAt(t, "any; save 21; any; match", "abc", 0, "0-1 in 4")
	checkAt(t, "any; save 20; any; save 21; any; match", "abcd", 1, "2-3 in 6")
	checkAt(t, "any; save 21; any; save 20; any; match", "abcd", 0, "2-2 in 6")
	checkAt(t, "any; save 21; save 20; any; match", "abcd", 0, "1-1 in 5")
	checkAt(t, "any; any; save 20; match", "ab", 0, "2-2 in 4")
	checkAt(t, "save 21; any; any; match", "ab", 0, "0-0 in 4")
	checkAt(t, "save 20; any; save 20; any; save 21; any; save 21; match", "abc", 0, "1-3 in 8")
	// Groups stay what they are, also where the match does not reach.
	checkAt(t, "save 2; any; save 3; save 20; any; save 21; save 4; any; save 5; match", "abc", 0, "1-2 1:0-1 2:2-3 in 10")
	// A place 0 is a place.
	checkAt(t, "save 20; save 21; any; match", "a", 0, "0-0 in 4")
}

func TestJump(t *testing.T) {
	checkAt(t, "jump 2; byte x; byte a; match", "a", 0, "0-1 in 3")
	checkAt(t, "jump 2; match; any; jump 1", "ab", 0, "0-1 in 4")
	checkAt(t, "jump 3; any; match; any; jump 1", "abc", 0, "0-2 in 5")
	checkAt(t, "any; jump 0", "abc", 0, "none in 7")
	checkAt(t, "eol; match; jump 0", "", 0, "0-0 in 2")
	checkAt(t, "split 3 1; any; jump 0; eol; match; jump 0", "ab", 0, "0-2 in 11")
}

func TestSplit(t *testing.T) {
	checkAt(t, "split 1 2; any; match", "a", 0, "0-1 in 3")
	checkAt(t, "split 2 1; any; match", "a", 0, "0-0 in 2")
	checkAt(t, "split 1 2; any; match", "", 0, "0-0 in 3")
	checkAt(t, "split 1 3; byte a; match; byte b; match", "b", 0, "0-1 in 4")
	checkAt(t, "split 1 3; byte a; match; byte b; match", "c", 0, "none in 3")
	checkAt(t, "split 2 2; match; any; byte x; match", "ab", 0, "none in 5")
}

// TestTheLastTryGoesOnFirst: of three that are laid aside the first one is the last to go on; each step is counted once.
func TestTheLastTryGoesOnFirst(t *testing.T) {
	checkAt(t, "split 1 8; split 2 6; split 3 4; byte x; byte y; match; byte a; match; any; any; match", "ab", 0, "0-1 in 7")
	checkAt(t, "split 1 8; split 2 6; split 3 4; byte x; byte y; match; byte z; match; any; any; match", "ab", 0, "0-2 in 9")
	// A try goes on from where it was laid aside, with the slots that it had then.
	checkAt(t, "save 2; any; split 3 6; any; save 3; byte x; save 5; match", "abc", 0, "0-1 in 8")
	checkAt(t, "any; save 2; split 3 7; save 20; any; save 3; byte x; any; save 3; match", "abc", 0, "0-2 1:1-2 in 10")
}

func TestRounds(t *testing.T) {
	checkAt(t, "start 0; gone 0; match", "a", 0, "none in 2")
	checkAt(t, "start 0; any; gone 0; match", "a", 0, "0-1 in 4")
	checkAt(t, "any; start 0; gone 0; match", "a", 0, "none in 3")
	checkAt(t, "start 0; start 1; any; gone 0; gone 1; match", "a", 0, "0-1 in 6")
	checkAt(t, "start 0; any; start 1; gone 0; gone 1; match", "a", 0, "none in 5")
	checkAt(t, "start 0; any; start 0; gone 0; match", "a", 0, "none in 4")
	checkAt(t, "start 1; any; start 0; gone 1; match", "a", 0, "0-1 in 5")
	checkAt(t, "start 0; any; gone 0; gone 0; match", "a", 0, "0-1 in 5")
}

// TestRoundsThatHaveNotBegun stand at the line's beginning, wherever the try does.
func TestRoundsThatHaveNotBegun(t *testing.T) {
	checkAt(t, "gone 0; match", "ab", 0, "none in 1")
	checkAt(t, "gone 0; match", "ab", 1, "1-1 in 2")
	checkAt(t, "any; gone 0; match", "ab", 0, "0-1 in 3")
	checkAt(t, "gone 1999; match", "ab", 0, "none in 1")
	checkAt(t, "gone 1999; match", "ab", 2, "2-2 in 2")
}

// TestRoundsAreATrysOwn: what another try began is not begun for one that was laid aside ahead of it.
func TestRoundsAreATrysOwn(t *testing.T) {
	// Begun at 1 in the first way only: the second one has it at 0 still, and has gone on.
	checkAt(t, "any; split 2 4; start 0; byte x; gone 0; match", "ab", 0, "0-1 in 6")
	// Begun at 0 ahead of both: the second way has not gone on.
	checkAt(t, "any; start 0; split 3 6; any; start 0; byte x; gone 0; match", "abc", 0, "none in 7")
	// Begun twice in the first way: it is 0 again, not 1.
	checkAt(t, "any; split 2 6; start 0; any; start 0; byte x; gone 0; match", "abc", 0, "0-1 in 8")
	// Laid aside between two beginnings: it has the first one.
	checkAt(t, "any; start 0; any; split 4 6; start 0; byte x; gone 0; match", "abc", 0, "0-2 in 8")
	checkAt(t, "any; start 0; split 3 5; start 0; byte x; gone 0; match", "abc", 0, "none in 6")
	// Several rounds, several tries.
	checkAt(t, "any; start 0; split 3 8; any; start 1; split 6 8; start 0; byte x; gone 0; match", "abc", 0, "0-2 in 10")
	checkAt(t, "any; start 0; split 3 8; any; start 1; split 6 8; start 0; byte x; gone 1; match", "abc", 0, "0-1 in 11")
	checkAt(t, "any; start 0; split 3 8; any; start 1; split 6 8; start 0; byte x; gone 0; gone 1; match", "abc", 0, "none in 11")
}
