package cmd_test

import (
	"strings"
	"testing"

	"emendator/api"
)

func TestExamples(t *testing.T) {
	check(t, `%s/a\/b/c/g 3`, put("a/b", "c").in(line(1), end).flags("g").count(3))
	check(t, "dx", named("d").reg('x'))
	refuse(t, api.ErrCmd, "zz")
}

// TestNumbersOfErrors: those that DOC.md and the chapters give them.
func TestNumbersOfErrors(t *testing.T) {
	if api.ErrLimit != 3 || api.ErrAddr != 141 || api.ErrCmd != 150 || api.ErrTrail != 151 || api.MaxCmd != 1000 {
		t.Error("an error's or a limit's number is another one")
	}
}

// TestHowLong: a line has 1000 bytes at most; one that is longer is refused, whatever it says.
func TestHowLong(t *testing.T) {
	long := func(n int, head, byte, tail string) string {
		return head + strings.Repeat(byte, n-len(head)-len(tail)) + tail
	}
	check(t, long(1000, "s/", "x", "//"), put(strings.Repeat("x", 996), ""))
	check(t, long(1000, "norm ", "x", ""), named("norm").arg(strings.Repeat("x", 995)))
	check(t, long(1000, "g//", "\xff", ""), visit("g", "", strings.Repeat("\xff", 997)))
	check(t, long(1000, "", " ", "d"), named("d"))
	check(t, long(1000, "d", " ", ""), named("d"))
	check(t, long(1000, "", " ", ""), named(""))
	check(t, long(1000, "", ">", ""), named(">").arg(strings.Repeat(">", 1000)))
	refuse(t, api.ErrTrail, long(1000, "d", " ", "xyz"))
	refuse(t, api.ErrLimit,
		long(1001, "s/", "x", "//"), long(1001, "norm ", "x", ""), long(1001, "", " ", "d"), long(1001, "d", " ", ""),
		long(1001, "", " ", ""), long(1001, "", ">", ""), long(1001, "zz", "z", ""), long(1001, "", "1", "d"), long(1001, "d", "1", ""),
		long(1001, "", "\xff", ""), long(2000, "m", " ", ""), long(70000, "", "'", ""))
}

// TestRange: it is that of addr.Parse, and the name stands where that ends.
func TestRange(t *testing.T) {
	check(t, "d", named("d"))
	check(t, "3d", named("d").in(line(3)))
	check(t, "1,2d", named("d").in(line(1), line(2)))
	check(t, "%d", named("d").in(line(1), end))
	check(t, ",d", named("d").in(dot, dot))
	check(t, "1;$-1d", named("d").in(api.Addr{Kind: api.AdLine, N: 1, Semi: true}, api.Addr{Kind: api.AdEnd, Off: -1}))
	check(t, "'dd", named("d").in(api.Addr{Kind: api.AdMark, C: 'd'}))
	check(t, `/d\/x/dx`, named("d").reg('x').in(api.Addr{Kind: api.AdFore, Pat: "d/x"}))
	check(t, "?d?+d", named("d").in(api.Addr{Kind: api.AdBack, Pat: "d", Off: 1}))
	check(t, "+d", named("d").in(api.Addr{Kind: api.AdDot, Off: 1}))
	check(t, ": : 3 , $ d", named("d").in(line(3), end))
	check(t, ":::d", named("d"))
	check(t, " \td", named("d"))
	check(t, "3 d", named("d").in(line(3)))
	check(t, "%\t d", named("d").in(line(1), end))
	check(t, "1,2,3=", named("=").in(line(1), line(2), line(3)))
	check(t, "1,2>", named(">").arg(">").in(line(1), line(2)))
}

// TestRangeIsRefusedFirst: its error comes ahead of whatever else is wrong.
func TestRangeIsRefusedFirst(t *testing.T) {
	refuse(t, api.ErrAddr, "1234567890", "1234567890d", "'", "1,'", "1234567890zz", "1,1234567890g", "+1234567890d xyz", "1234567890m", "1234567890norm")
	check(t, "123456789d", named("d").in(line(123456789)))
	refuse(t, api.ErrCmd, "'zz/a", "1,2:3", "%3", "%,3d")
}

// TestNothing: behind the range nothing need stand, and then one goes there.
func TestNothing(t *testing.T) {
	check(t, "", named(""))
	check(t, ":", named(""))
	check(t, " \t: ", named(""))
	check(t, "3", named("").in(line(3)))
	check(t, "3 ", named("").in(line(3)))
	check(t, "% ", named("").in(line(1), end))
	check(t, "1,2", named("").in(line(1), line(2)))
	check(t, "1,", named("").in(line(1), dot))
	check(t, "/d", named("").in(api.Addr{Kind: api.AdFore, Pat: "d"}))
	check(t, "'d", named("").in(api.Addr{Kind: api.AdMark, C: 'd'}))
}
