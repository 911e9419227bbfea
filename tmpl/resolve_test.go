package tmpl_test

import (
	"strings"
	"testing"

	"emendator/tmpl"
)

func TestResolveExample(t *testing.T) {
	checkResolve(t, `x~\~`, `&`, `x&~`)
}

func TestResolveTilde(t *testing.T) {
	checkResolve(t, `~`, `ab`, `ab`)
	checkResolve(t, `x~`, `ab`, `xab`)
	checkResolve(t, `~x`, `ab`, `abx`)
	checkResolve(t, `x~y`, `ab`, `xaby`)
	checkResolve(t, `~~`, `ab`, `abab`)
	checkResolve(t, `~x~`, `ab`, `abxab`)
	checkResolve(t, `~~~`, `a`, `aaa`)
}

func TestResolveTildeBehindABackslash(t *testing.T) {
	checkResolve(t, `\~`, `ab`, `~`)
	checkResolve(t, `x\~y`, `ab`, `x~y`)
	checkResolve(t, `\~\~`, `ab`, `~~`)
	checkResolve(t, `~\~`, `ab`, `ab~`)
	checkResolve(t, `\~~`, `ab`, `~ab`)
}

// TestResolveBackslashes: two of them belong together, so they say nothing of what stands behind.
func TestResolveBackslashes(t *testing.T) {
	checkResolve(t, `\\`, `ab`, `\\`)
	checkResolve(t, `\\~`, `ab`, `\\ab`)
	checkResolve(t, `\\\~`, `ab`, `\\~`)
	checkResolve(t, `\\\\~`, `ab`, `\\\\ab`)
	checkResolve(t, `\\\\\~`, `ab`, `\\\\~`)
	checkResolve(t, `\\x\\`, `ab`, `\\x\\`)
}

func TestResolveBackslashAtTheEnd(t *testing.T) {
	checkResolve(t, `\`, `ab`, `\`)
	checkResolve(t, `x\`, `ab`, `x\`)
	checkResolve(t, `~\`, `ab`, `ab\`)
	checkResolve(t, `\~\`, `ab`, `~\`)
	checkResolve(t, `\\\`, `ab`, `\\\`)
	checkResolve(t, `\\\\\`, `ab`, `\\\\\`)
}

// TestResolveEachByte: any byte but ~ and \ stays, also behind a backslash, which stays, too.
func TestResolveEachByte(t *testing.T) {
	for n := range 256 {
		c := string([]byte{byte(n)})
		if c == `~` {
			continue
		}
		checkResolve(t, `\`+c, `ab`, `\`+c)
		checkResolve(t, `\`+c+`~`, `ab`, `\`+c+`ab`)
		if c == `\` {
			continue
		}
		checkResolve(t, c, `ab`, c)
		checkResolve(t, c+`~`+c, `ab`, c+`ab`+c)
		checkResolve(t, c+`\~`+c, `ab`, c+`~`+c)
		checkResolve(t, c+`\`, `ab`, c+`\`)
	}
}

func TestResolveEmpty(t *testing.T) {
	checkResolve(t, ``, ``, ``)
	checkResolve(t, ``, `ab`, ``)
	checkResolve(t, ``, `~\`, ``)
	checkResolve(t, `~`, ``, ``)
	checkResolve(t, `~~`, ``, ``)
	checkResolve(t, `x~y`, ``, `xy`)
	checkResolve(t, `\~`, ``, `~`)
	checkResolve(t, `x`, ``, `x`)
	checkResolve(t, `\`, ``, `\`)
}

// TestResolveLastAsItIs: what there was last is not read again, nor together with what stands beside it.
func TestResolveLastAsItIs(t *testing.T) {
	checkResolve(t, `~`, `~`, `~`)
	checkResolve(t, `~~`, `~`, `~~`)
	checkResolve(t, `x~`, `a~b`, `xa~b`)
	checkResolve(t, `~`, `\~`, `\~`)
	checkResolve(t, `~~`, `\~`, `\~\~`)
	checkResolve(t, `~`, `\`, `\`)
	checkResolve(t, `~~`, `\`, `\\`)
	checkResolve(t, `~\~`, `\`, `\~`)
	checkResolve(t, `~x`, `\`, `\x`)
	checkResolve(t, `~`, `\\`, `\\`)
	checkResolve(t, `\~`, `\~`, `~`)
	checkResolve(t, `~`, `\n\r&\1`, `\n\r&\1`)
	for n := range 256 {
		c := string([]byte{byte(n)})
		checkResolve(t, `~`, c, c)
		checkResolve(t, `<~~>`, c, `<`+c+c+`>`)
		checkResolve(t, `~`, `\`+c, `\`+c)
	}
}

func TestResolveLeavesOtherPieces(t *testing.T) {
	all := `&\&\0\1\9\r\u\l\U\L\e\E\n\t\x`
	checkResolve(t, all, `ab`, all)
	checkResolve(t, `~`+all+`~`, `ab`, `ab`+all+`ab`)
}

// TestResolveLong: beyond all limits of lines, too, every byte is there.
func TestResolveLong(t *testing.T) {
	const many = 1 << 16
	checkResolve(t, strings.Repeat(`~`, many), `abc`, strings.Repeat(`abc`, many))
	checkResolve(t, strings.Repeat(`\~`, many), `abc`, strings.Repeat(`~`, many))
	checkResolve(t, strings.Repeat(`\`, many+1), `abc`, strings.Repeat(`\`, many+1))
	checkResolve(t, strings.Repeat("x\xff", many), `abc`, strings.Repeat("x\xff", many))
	checkResolve(t, `~~`, strings.Repeat(`~`, many), strings.Repeat(`~`, 2*many))
}

// TestResolveKeepsNothing: what was last is told by each call anew.
func TestResolveKeepsNothing(t *testing.T) {
	for _, last := range []string{`a`, `b`, ``, `a`} {
		if is := tmpl.Resolve(`~x~`, last); is != last+`x`+last {
			t.Errorf("with %q: %q", last, is)
		}
	}
}
