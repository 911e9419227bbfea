package tmpl_test

import (
	"strings"
	"testing"

	"emendator/api"
	"emendator/tmpl"
)

func TestParseExample(t *testing.T) {
	checkParse(t, `a\u&\r`, text("a"), casing('u'), group(0), split())
}

// TestNames: the numbers that DOC.md gives the kinds of pieces.
func TestNames(t *testing.T) {
	for i, kind := range []uint8{api.TmText, api.TmGroup, api.TmSplit, api.TmCase} {
		if int(kind) != i+1 {
			t.Errorf("kind %d, want %d", kind, i+1)
		}
	}
}

func TestParseEmpty(t *testing.T) {
	checkParse(t, "")
}

func TestParseGroups(t *testing.T) {
	checkParse(t, `&`, group(0))
	checkParse(t, `&&`, group(0), group(0))
	checkParse(t, `a&b`, text("a"), group(0), text("b"))
	checkParse(t, `\1\2`, group(1), group(2))
	checkParse(t, `\12`, group(1), text("2"))
	checkParse(t, `\2-\1`, group(2), text("-"), group(1))
	checkParse(t, `12`, text("12"))
	for n := range 10 {
		digit := string([]byte{'0' + byte(n)})
		checkParse(t, `\`+digit, group(n))
		checkParse(t, `a\`+digit+digit, text("a"), group(n), text(digit))
		checkParse(t, digit, text(digit))
	}
}

func TestParseSplits(t *testing.T) {
	checkParse(t, `\r`, split())
	checkParse(t, `\r\r`, split(), split())
	checkParse(t, `a\rb`, text("a"), split(), text("b"))
	checkParse(t, `r`, text("r"))
	checkParse(t, `\R`, text("R"))
	checkParse(t, "a\rb\nc", text("a\rb\nc"))
	checkParse(t, "\\\r\\\n", text("\r\n"))
}

func TestParseCases(t *testing.T) {
	for _, c := range []byte("ulUL") {
		checkParse(t, `\`+string(rune(c)), casing(c))
		checkParse(t, string(rune(c)), text(string(rune(c))))
	}
	checkParse(t, `\e`, casing('E'))
	checkParse(t, `\E`, casing('E'))
	checkParse(t, `eE`, text("eE"))
	checkParse(t, `\u\l\U\L\e\E`, casing('u'), casing('l'), casing('U'), casing('L'), casing('E'), casing('E'))
	checkParse(t, `\Uab\Ec`, casing('U'), text("ab"), casing('E'), text("c"))
	checkParse(t, `\u\1\L&\e`, casing('u'), group(1), casing('L'), group(0), casing('E'))
}

// TestParseBytesWithALetter: \n and \t stand for a byte, which belongs to the text beside it.
func TestParseBytesWithALetter(t *testing.T) {
	checkParse(t, `\n`, text("\x00"))
	checkParse(t, `\t`, text("\x09"))
	checkParse(t, `\n\t\n`, text("\x00\x09\x00"))
	checkParse(t, `a\nb\tc`, text("a\x00b\x09c"))
	checkParse(t, `\n&\t`, text("\x00"), group(0), text("\x09"))
	checkParse(t, `nt`, text("nt"))
	checkParse(t, `\N\T`, text("NT"))
}

func TestParseBackslashes(t *testing.T) {
	checkParse(t, `\\`, text(`\`))
	checkParse(t, `\\\\`, text(`\\`))
	checkParse(t, `a\\b`, text(`a\b`))
	checkParse(t, `\\r`, text(`\r`))
	checkParse(t, `\\\r`, text(`\`), split())
	checkParse(t, `\\1`, text(`\1`))
	checkParse(t, `\\&`, text(`\`), group(0))
	checkParse(t, `\&`, text(`&`))
	checkParse(t, `\\\&`, text(`\&`))
	checkParse(t, `\&&\&`, text(`&`), group(0), text(`&`))
}

func TestParseBackslashAtTheEnd(t *testing.T) {
	checkParse(t, `\`, text(`\`))
	checkParse(t, `a\`, text(`a\`))
	checkParse(t, `&\`, group(0), text(`\`))
	checkParse(t, `\r\`, split(), text(`\`))
	checkParse(t, `\\\`, text(`\\`))
	checkParse(t, `a\\\`, text(`a\\`))
	checkParse(t, `\\\\\`, text(`\\\`))
	checkParse(t, `\n\`, text("\x00\\"))
}

func TestParseTilde(t *testing.T) {
	checkParse(t, `~`, text("~"))
	checkParse(t, `\~`, text("~"))
	checkParse(t, `a~\~b`, text("a~~b"))
	checkParse(t, `~&~`, text("~"), group(0), text("~"))
}

// TestParseOneText: bytes in a row are one piece, whether backslashes stand ahead of them or not; what stands between parts them.
func TestParseOneText(t *testing.T) {
	checkParse(t, `abc`, text("abc"))
	checkParse(t, `a\bc`, text("abc"))
	checkParse(t, `\a\b\c`, text("abc"))
	checkParse(t, `\.\*a\/\[~\\\n\t\&z\`, text(".*a/[~\\\x00\x09&z\\"))
	for _, between := range []struct {
		s     string
		piece api.Tm
	}{{`&`, group(0)}, {`\0`, group(0)}, {`\9`, group(9)}, {`\r`, split()}, {`\u`, casing('u')}, {`\e`, casing('E')}} {
		checkParse(t, `ab`+between.s+`c\d`, text("ab"), between.piece, text("cd"))
		checkParse(t, between.s+`a`+between.s, between.piece, text("a"), between.piece)
		checkParse(t, between.s+between.s, between.piece, between.piece)
	}
}

// TestParseEachByte: of all bytes, alone, behind a backslash, and with others beside them.
func TestParseEachByte(t *testing.T) {
	for n := range 256 {
		c := string([]byte{byte(n)})
		if c != `&` && c != `\` {
			checkParse(t, c, text(c))
			checkParse(t, `x`+c+`y`, text(`x`+c+`y`))
			checkParse(t, `&`+c+`&`, group(0), text(c), group(0))
		}
		if strings.Contains(`0123456789rulULeEnt`, c) {
			continue
		}
		checkParse(t, `\`+c, text(c))
		checkParse(t, `x\`+c+`y`, text(`x`+c+`y`))
		checkParse(t, `&\`+c+`&`, group(0), text(c), group(0))
	}
}

// TestParseBytesNotRunes: a letter of several bytes is these bytes, and what is no such letter stays as it is.
func TestParseBytesNotRunes(t *testing.T) {
	checkParse(t, "é\\é", text("éé"))
	checkParse(t, "\xc3&\xa9", text("\xc3"), group(0), text("\xa9"))
	checkParse(t, "\xff\\\xfe\x80", text("\xff\xfe\x80"))
	checkParse(t, "\x00\\\x00\\n", text("\x00\x00\x00"))
}

func TestParseResolved(t *testing.T) {
	checkParse(t, tmpl.Resolve(`x~\~`, `&`), text("x"), group(0), text("~"))
	checkParse(t, tmpl.Resolve(`\\~`, `\1`), text(`\`), group(1))
	checkParse(t, tmpl.Resolve(`~r`, `\`), split())
}

// TestParseLong: beyond all limits of lines, too, every byte is there.
func TestParseLong(t *testing.T) {
	const many = 1 << 16
	checkParse(t, strings.Repeat(`a\b`, many), text(strings.Repeat("ab", many)))
	checkParse(t, strings.Repeat(`\`, 2*many+1), text(strings.Repeat(`\`, many+1)))
	want := make([]api.Tm, 0, 2*many)
	for range many {
		want = append(want, text("a"), group(0))
	}
	checkParse(t, strings.Repeat(`a&`, many), want...)
}
