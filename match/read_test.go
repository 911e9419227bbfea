package match_test

import (
	"testing"

	"emendator/api"
	"emendator/match"
)

func TestExamples(t *testing.T) {
	checkRead(t, "a*", "aab", "0-2")
	checkRead(t, `\(a\)\1`, "aa", "0-2 1:0-1")
}

func TestBranches(t *testing.T) {
	checkRead(t, `\va|ab`, "ab", "0-1")
	checkRead(t, `\vab|a`, "ab", "0-2")
	checkRead(t, `\vab|a`, "ac", "0-1")
	checkRead(t, `\v(a|ab)(c|bcd)`, "abcd", "0-4 1:0-1 2:1-4")
	checkRead(t, `\v(a|ab)(c|bcx)`, "abcd", "0-3 1:0-2 2:2-3")
	checkRead(t, `\vx|y|z`, "z", "0-1")
	checkRead(t, `\vx|y|z`, "a", "none")
	checkRead(t, `\vx|`, "a", "0-0")
	checkRead(t, `\v|a`, "a", "0-0")
	checkRead(t, `\v(|a)$`, "a", "0-1 1:0-1")
}

func TestGreedy(t *testing.T) {
	checkRead(t, `a*a`, "aaa", "0-3")
	checkRead(t, `a*`, "b", "0-0")
	checkRead(t, `a\+`, "b", "none")
	checkRead(t, `a\+`, "aab", "0-2")
	checkRead(t, `a\=`, "aa", "0-1")
	checkRead(t, `a\{2,3}`, "aaaa", "0-3")
	checkRead(t, `a\{2,3}`, "aa", "0-2")
	checkRead(t, `a\{2,3}`, "a", "none")
	checkRead(t, `a\{2}`, "aaa", "0-2")
	checkRead(t, `a\{,2}`, "aaa", "0-2")
	checkRead(t, `a\{0}`, "aaa", "0-0")
	checkRead(t, `~*`, "abababa", "0-6")
	checkRead(t, `\v(.*)b`, "abbc", "0-3 1:0-2")
	checkRead(t, `\v(a*)(a*)`, "aa", "0-2 1:0-2 2:2-2")
	checkRead(t, `\v(a=)(a)`, "a", "0-1 1:0-0 2:0-1")
}

func TestLazy(t *testing.T) {
	checkRead(t, `a\{-}`, "aaa", "0-0")
	checkRead(t, `a\{-}b`, "aab", "0-3")
	checkRead(t, `a\{-1,}`, "aaa", "0-1")
	checkRead(t, `a\{-2,3}`, "aaaa", "0-2")
	checkRead(t, `a\{-2,3}b`, "aaab", "0-4")
	checkRead(t, `a\{-2,3}b`, "aaaab", "none")
	checkRead(t, `\v(.{-})b`, "abbc", "0-2 1:0-1")
	checkRead(t, `\v(a{-})(a*)`, "aa", "0-2 1:0-0 2:0-2")
}

// TestRoundsOfNothing: a round that has not gone on fails, so that loops end.
func TestRoundsOfNothing(t *testing.T) {
	checkRead(t, `\v(a*)*`, "aa", "0-2 1:0-2")
	checkRead(t, `\v(a*)*`, "b", "0-0")
	checkRead(t, `\v(a*)+`, "b", "0-0 1:0-0")
	checkRead(t, `\v(|a)*`, "aa", "0-2 1:1-2")
	checkRead(t, `\v(|a){-}$`, "aa", "0-2 1:1-2")
	checkRead(t, `\v(|a)+`, "aa", "0-2 1:1-2")
	checkRead(t, `\v(|a){2,}`, "aa", "0-2 1:1-2")
	checkRead(t, `\v(())*`, "a", "0-0")
	checkRead(t, `\v(()){3}`, "a", "0-0 1:0-0 2:0-0")
	checkRead(t, `\v(()){,3}`, "a", "0-0")
	checkRead(t, `\v((a*)*b*)*`, "aabab", "0-5 1:3-5 2:3-4")
	checkRead(t, `\v(^)*a`, "a", "0-1")
	checkRead(t, `\v(\zs)*a`, "a", "0-1")
}

func TestGroups(t *testing.T) {
	checkRead(t, `\v((a)(b))(c)`, "abc", "0-3 1:0-2 2:0-1 3:1-2 4:2-3")
	checkRead(t, `\v(a|(b))*`, "aba", "0-3 1:2-3 2:1-2")
	checkRead(t, `\v(a)|(b)`, "b", "0-1 2:0-1")
	checkRead(t, `\v(a)|(b)`, "a", "0-1 1:0-1")
	checkRead(t, `\v(a)=b`, "b", "0-1")
	checkRead(t, `\v(a)*`, "aaa", "0-3 1:2-3")
	checkRead(t, `\v(((((((((a)))))))))`, "a", "0-1 1:0-1 2:0-1 3:0-1 4:0-1 5:0-1 6:0-1 7:0-1 8:0-1 9:0-1")
}

// TestTheWayThatFailedIsForgotten: groups are those of the way that is the match.
func TestTheWayThatFailedIsForgotten(t *testing.T) {
	checkRead(t, `\v((a)b|a)c`, "ac", "0-2 1:0-1")
	checkRead(t, `\v((a)x|(a)y|a)z`, "az", "0-2 1:0-1")
	checkRead(t, `\v(a\zsb|ab\zec|.*)$`, "abd", "0-3 1:0-3")
}

func TestGroupsThatAreAskedForAgain(t *testing.T) {
	checkRead(t, `\v(a|b)\1`, "bb", "0-2 1:0-1")
	checkRead(t, `\v(a|b)\1`, "ab", "none")
	checkRead(t, `\v(a*)\1`, "aaaaa", "0-4 1:0-2")
	checkRead(t, `\v(a*)b\1`, "aaba", "none")
	checkRead(t, `\v(a*)b\1$`, "aabaa", "0-5 1:0-2")
	checkRead(t, `\v(a)=\1`, "b", "none")
	checkRead(t, `\v(a|b)+\1`, "abb", "0-3 1:1-2")
	checkRead(t, `\v(.)(.)\2\1`, "abba", "0-4 1:0-1 2:1-2")
	checkRead(t, `\v(a)\1*b`, "aaab", "0-4 1:0-1")
	checkRead(t, `\v\c(ab)\1`, "aBAb", "0-4 1:0-2")
	checkRead(t, `\v\C(ab)\1`, "abAb", "none")
	checkRead(t, `\v()\1\1a`, "a", "0-1 1:0-0")
}

func TestSaidByPatterns(t *testing.T) {
	checkRead(t, `a\zsb`, "ab", "1-2")
	checkRead(t, `a\zeb`, "ab", "0-1")
	checkRead(t, `a\zsb\zec`, "abc", "1-2")
	checkRead(t, `a\zeb\zsc`, "abc", "2-2")
	checkRead(t, `\zs\zea`, "a", "0-0")
	checkRead(t, `\v(a\zs)*`, "aaa", "3-3 1:2-3")
	checkRead(t, `\v(\zea)*`, "aaa", "0-2 1:2-3")
	checkRead(t, `ab\zs`, "ab", "2-2")
	checkRead(t, `\v(a)\zs(b)\ze(c)`, "abc", "1-2 1:0-1 2:1-2 3:2-3")
}

func TestPatternsAtTheLinesEnds(t *testing.T) {
	checkRead(t, `^$`, "", "0-0")
	checkRead(t, `^$`, "a", "none")
	checkRead(t, `^a$`, "a", "0-1")
	checkRead(t, `\<ab\>`, "ab", "0-2")
	checkRead(t, `\<ab\>`, "abc", "none")
	checkRead(t, `\<ab\>`, "ab-", "0-2")
	checkRead(t, `.*\>`, "ab -", "0-2")
	checkRead(t, `.*\<`, "ab c-", "0-3")
	checkRead(t, `\<`, "", "none")
	checkRead(t, `\>`, "", "none")
}

func TestPatternsThatMatchNothing(t *testing.T) {
	checkRead(t, ``, "", "0-0")
	checkRead(t, ``, "a", "0-0")
	checkRead(t, `\n`, "\n", "none")
	checkRead(t, `x*`, "a", "0-0")
	checkRead(t, `x`, "", "none")
	checkRead(t, `a$b`, "ab", "none")
	checkRead(t, `\va$|ab`, "ab", "0-2")
}

func TestFromGoesOnToTheLeastPlace(t *testing.T) {
	checkFrom(t, "b", "abab", 0, "1-2")
	checkFrom(t, "b", "abab", 1, "1-2")
	checkFrom(t, "b", "abab", 2, "3-4")
	checkFrom(t, "b", "abab", 4, "none")
	checkFrom(t, "aab", "aaab", 0, "1-4")
	checkFrom(t, "a*", "baa", 0, "0-0")
	checkFrom(t, `a\+`, "baa", 0, "1-3")
	checkFrom(t, `\vb|abc`, "abc", 0, "0-3") // the least place comes ahead of the first branch
	checkFrom(t, `\(b\)\1`, "abb", 0, "1-3 1:1-2")
	checkFrom(t, `a\zsb`, "ab", 0, "1-2")
	checkFrom(t, `a\zsb`, "ab", 1, "none") // what stands ahead of from is not in the match, whatever \zs says
	checkFrom(t, `\va\zsb|b`, "ab", 1, "1-2")
	checkFrom(t, `\v(a\zsc|b)`, "abac", 0, "1-2 1:1-2")
}

func TestFromAtTheLinesEnds(t *testing.T) {
	checkFrom(t, "", "ab", 2, "2-2")
	checkFrom(t, "$", "ab", 0, "2-2")
	checkFrom(t, "$", "ab", 2, "2-2")
	checkFrom(t, "x*$", "ab", 0, "2-2")
	checkFrom(t, "^", "ab", 0, "0-0")
	checkFrom(t, "^", "ab", 1, "none")
	checkFrom(t, "^", "ab", 2, "none")
	checkFrom(t, "", "", 0, "0-0")
	checkFrom(t, "a", "", 0, "none")
	checkFrom(t, "b", "ab", 2, "none")
	checkFrom(t, `\>`, "ab cd", 0, "2-2")
	checkFrom(t, `\>`, "ab cd", 3, "5-5")
	checkFrom(t, `\<`, "ab cd", 1, "3-3")
	checkFrom(t, `\<.`, "ab", 1, "none") // what stands ahead of from is looked at
}

// TestFromCountsAllItsSteps: those of the places at which there is no match, too.
func TestFromCountsAllItsSteps(t *testing.T) {
	for program, want := range map[string]string{
		"byte a; match":                         "4-5 in 6",
		"byte x; match":                         "none in 6",
		"any; any; byte a; match":               "2-5 in 10",
		"split 1 3; byte y; match; any; jump 1": "none in 28",
		"any; any; any; any; any; any; match":   "none in 21",
		"eol; match":                            "5-5 in 7",
		"match":                                 "0-0 in 1",
	} {
		checkCall(t, match.From, code(program), "bcdea", 0, want)
	}
	checkCall(t, match.From, code("byte a; match"), "bcdea", 4, "4-5 in 2")
	checkCall(t, match.From, code("byte a; match"), "bcdea", 5, "none in 1")
	checkCall(t, match.From, code("byte a; match"), "", 0, "none in 1")
}

// TestFromBeginsEachPlaceAnew: slots and rounds of a place at which there was no match are forgotten.
func TestFromBeginsEachPlaceAnew(t *testing.T) {
	checkCall(t, match.From, code("split 1 6; byte a; save 2; save 3; save 20; byte x; byte b; match"), "ab", 0, "1-2 in 11")
	// The round is at 0 again, so that it has gone on at 1; had it stayed at 1, it had not.
	checkCall(t, match.From, code("split 1 4; any; start 0; byte x; gone 0; match"), "ab", 0, "1-1 in 11")
	// Slot 0 is where the try at that place began.
	checkCall(t, match.From, code("any; save 1; back 0; match"), "abb", 0, "1-3 in 7")
}

// TestFromIsAtAtOnePlaceBehindTheOther: with every number of steps up to one more than are wanted.
func TestFromIsAtAtOnePlaceBehindTheOther(t *testing.T) {
	byHand := func(p api.Prog, line string, from, steps int) answer {
		for at := from; ; at++ {
			var a answer
			a.m, a.left, a.is, a.e = match.At(p, line, at, steps)
			if a.is || a.e != api.OK || at == len(line) {
				return a
			}
			steps = a.left
		}
	}
	for _, s := range []string{"", "b", "a*b", `\v(a|b)\1`, `\v(a*)*c`, `a\zsb`, "$", `\<b`, "x", `\v(.)(.)\2\1`} {
		for _, line := range []string{"", "a", "b", "ab", "aab", "abba", "a b", "xaabbc", "aaaaaa"} {
			p := read(t, s)
			for from := range len(line) + 1 {
				for steps := range 60 {
					is, want := ask(t, match.From, p, line, from, steps), byHand(p, line, from, steps)
					if is != want {
						t.Errorf("%q on %q from %d with %d steps: %v, want %v", s, line, from, steps, is, want)
					}
				}
			}
		}
	}
}
