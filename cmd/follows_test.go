package cmd_test

import (
	"strings"
	"testing"

	"emendator/api"
)

// TestRegister: any byte that is no digit, be there a register of that name or not.
func TestRegister(t *testing.T) {
	for _, name := range []string{"d", "y", "pu", "@"} {
		check(t, name, named(name))
		for _, c := range []byte("aZ\"_@%:=&#|\\.,/(\x00\x01\n\r\v\x7f\x80\xff") {
			check(t, name+string([]byte{c}), named(name).reg(c))
			check(t, name+" \t "+string([]byte{c})+"  ", named(name).reg(c))
		}
		refuse(t, api.ErrTrail, name+"ab", name+" a b", name+"a\n", name+"\n\n", name+`"a`, name+"\xc3\xa9")
	}
	check(t, "@@", named("@").reg('@'))
	check(t, "@:", named("@").reg(':'))
	check(t, "@ @", named("@").reg('@'))
	refuse(t, api.ErrTrail, "@a3", "@a 3", "@0", "@1", "@ 1", "pu1", "pu 0", "pua3", "pua 3", "put 9", "@@@", "pu!1")
}

// TestRegisterAndNumber: a digit is no register, and nothing stands behind the number.
func TestRegisterAndNumber(t *testing.T) {
	for _, name := range []string{"d", "y"} {
		check(t, name+"3", named(name).count(3))
		check(t, name+" 3", named(name).count(3))
		check(t, name+"x3", named(name).reg('x').count(3))
		check(t, name+"x 3", named(name).reg('x').count(3))
		check(t, name+" x\t 3 ", named(name).reg('x').count(3))
		check(t, name+"0", named(name).count(0))
		check(t, name+"-3", named(name).reg('-').count(3))
		check(t, name+"\xff123456789", named(name).reg(0xff).count(123456789))
		refuse(t, api.ErrTrail, name+"3x", name+" 3 x", name+"3x3", name+"x3x", name+"x3 3", name+"3 3", name+"xy3", name+"x y 3", name+"--3", name+"x+3")
	}
}

// TestNumber: of those behind which a number may stand, and nothing else.
func TestNumber(t *testing.T) {
	for name, start := range map[string]string{"j": "join", "p": "p", "=": "=", "u": "undo", "earlier": "earlier", "later": "later", "d": "d", "y": "y", "s": "s", "&": "&", "&&": "&&", "~": "~"} {
		m := named(name)
		check(t, start, m)
		check(t, start+"  ", m)
		check(t, start+"3", m.count(3))
		check(t, start+" 3", m.count(3))
		check(t, start+"\t \t3\t \t", m.count(3))
		check(t, start+"0", m.count(0))
		check(t, start+"000000000", m.count(0))
		check(t, start+"000000012", m.count(12))
		check(t, start+"123456789", m.count(123456789))
		check(t, start+" 999999999", m.count(999999999))
		refuse(t, api.ErrTrail, start+"1234567890", start+" 0000000001", start+"0000000000", start+strings.Repeat("9", 30), start+strings.Repeat("1", 900),
			start+"3 3", start+"3,", start+"3.", start+"3\n", start+"3\x00", start+"3\xff", start+"12345678 9", start+"3+", start+"3-1", start+"3!", start+"3\xb2", start+"3\xef\xbc\x93")
	}
	for _, sign := range []string{">", "<"} {
		check(t, sign+"3", named(sign).arg(sign).count(3))
		check(t, sign+sign+" 3 ", named(sign).arg(sign+sign).count(3))
		check(t, sign+"\t0", named(sign).arg(sign).count(0))
		check(t, sign+"  ", named(sign).arg(sign))
		refuse(t, api.ErrTrail, sign+"1234567890", sign+"a", sign+"3"+sign, sign+"-3", sign+"\n", sign+"3 3")
	}
	refuse(t, api.ErrTrail, "jx", "j-3", "p x", "p#", "p-3", "=x", "= -3", "u-1", "ux", "u +1", "later+1", "earlier -1", "later x", "j\n", "p\r", "u\v")
}

// TestNothingFollows: what takes nothing takes no number, either.
func TestNothingFollows(t *testing.T) {
	check(t, "red", named("red"))
	check(t, "redo \t ", named("red"))
	refuse(t, api.ErrTrail, "red1", "red 1", "redo3", "redx", "red x", "redo!", "red 1234567890", "red\n")
}

// TestDestination: it is one address, as addr.Parse reads it, and then nothing.
func TestDestination(t *testing.T) {
	for _, name := range []string{"m", "t"} {
		check(t, name+"0", named(name).to(line(0)))
		check(t, name+"3", named(name).to(line(3)))
		check(t, name+"$", named(name).to(end))
		check(t, name+".", named(name).to(dot))
		check(t, name+"+", named(name).to(api.Addr{Kind: api.AdDot, Off: 1}))
		check(t, name+" -2", named(name).to(api.Addr{Kind: api.AdDot, Off: -2}))
		check(t, name+"'a", named(name).to(api.Addr{Kind: api.AdMark, C: 'a'}))
		check(t, name+"''", named(name).to(api.Addr{Kind: api.AdMark, C: '\''}))
		check(t, name+`/a\/b/+2`, named(name).to(api.Addr{Kind: api.AdFore, Pat: "a/b", Off: 2}))
		check(t, name+"?a b", named(name).to(api.Addr{Kind: api.AdBack, Pat: "a b"}))
		check(t, name+"//", named(name).to(api.Addr{Kind: api.AdFore}))
		check(t, name+"123456789", named(name).to(line(123456789)))
		check(t, name+" \t3\t ", named(name).to(line(3)))
		check(t, name+" : 3", named(name).to(line(3)))
		check(t, "1,2"+name+"$", named(name).to(end).in(line(1), line(2)))
		refuse(t, api.ErrAddr,
			name, name+" ", name+":", name+"x", name+" x3", name+"#", name+`\/a/`, name+"\xff", name+"!3",
			name+"%", name+",", name+";", name+"3,4", name+"3;4", name+"3,", name+"3;", name+",3", name+"1,2,3", name+"3 , 4 x", name+"%3",
			name+"1234567890", name+"3+1234567890", name+"'", name+"3,'", name+"3,1234567890")
		refuse(t, api.ErrTrail, name+"3x", name+"3 x", name+"3 3", name+"3 +1", name+"'ab", name+"/a/b", name+"//x", name+". .", name+"$$", name+"3:", name+"3%", name+"3\n", name+"3m3")
	}
}

// TestMark: one byte, any one, which must be there.
func TestMark(t *testing.T) {
	for _, c := range []byte("azAZ09'!\"/\x00\n\x80\xff") {
		check(t, "k"+string([]byte{c}), named("k").reg(c))
		check(t, "mark \t"+string([]byte{c})+"\t", named("k").reg(c))
	}
	check(t, "2ka", named("k").reg('a').in(line(2)))
	refuse(t, api.ErrTrail, "k", "k ", "k\t \t", "mark", "mark  ", "3k", "kab", "k a b", "ka3", "k12", "k a\n")
}

// TestSubstitution: between signs stand what is looked for and what is put there, then flags and a number.
func TestSubstitution(t *testing.T) {
	check(t, "s/a/b/", put("a", "b"))
	check(t, "s/a/b/g", put("a", "b").flags("g"))
	check(t, "s/a/b/3", put("a", "b").count(3))
	check(t, "s/a/b/g3", put("a", "b").flags("g").count(3))
	check(t, "s /a/b/ g 3 ", put("a", "b").flags("g").count(3))
	check(t, "substitute\t/a/b/\tg\t3\t", put("a", "b").flags("g").count(3))
	check(t, "s///", put("", ""))
	check(t, "s//b/", put("", "b"))
	check(t, "s/a//", put("a", ""))
	check(t, "s///&", put("", "").flags("&"))
	check(t, "1,2s/a/b/", put("a", "b").in(line(1), line(2)))
	check(t, "s/a/b|c\"d\n/", put("a", "b|c\"d\n"))
	refuse(t, api.ErrTrail, "s/a/b/c/", "s/a/b//", "s/a/b/x", "s/a/b/gx", "s/a/b/3g", "s/a/b/g g", "s/a/b/g 3 x", "s/a/b/ g c", "s/a/b/g1234567890", "s/a/b/!", "s/a/b/|d", "s/a/b/-1", "s/a/b/G", "s/a/b/g\n", "s/a/b/\xff")
}

// TestNotClosed: what is not closed goes up to the end; behind it nothing is left.
func TestNotClosed(t *testing.T) {
	check(t, "s/", put("", ""))
	check(t, "s/a", put("a", ""))
	check(t, "s/a/", put("a", ""))
	check(t, "s//", put("", ""))
	check(t, "s//b", put("", "b"))
	check(t, "s/a/b", put("a", "b"))
	check(t, "s/a/b g 3 ", put("a", "b g 3 "))
	check(t, "s/a b g", put("a b g", ""))
	check(t, "s,a/b/g", put("a/b/g", ""))
	check(t, "g/a", visit("g", "a", "p"))
	check(t, "g/", visit("g", "", "p"))
	check(t, "v/a d", visit("v", "a d", "p"))
}

// TestBackslash: ahead of the sign it is taken away, ahead of any other byte it stays, and so it does at the end.
func TestBackslash(t *testing.T) {
	check(t, `s/\//\//`, put("/", "/"))
	check(t, `s/a\/b/c\/d/g`, put("a/b", "c/d").flags("g"))
	check(t, `s/\(a\)/\1\n/`, put(`\(a\)`, `\1\n`))
	check(t, `s/a\\/b/`, put(`a\\`, "b"))
	check(t, `s/a\\\/b/c/`, put(`a\\/b`, "c"))
	check(t, `s,a\,b\/,c,`, put(`a,b\/`, "c"))
	check(t, `s/a/b\`, put("a", `b\`))
	check(t, `s/a/b\\`, put("a", `b\\`))
	check(t, `s/a\`, put(`a\`, ""))
	check(t, `s/\`, put(`\`, ""))
	check(t, `s/a\/b`, put("a/b", ""))
	check(t, `s/a/b\/g`, put("a", "b/g"))
	check(t, `s/a\g3/b\ c/`, put(`a\g3`, `b\ c`))
	check(t, `g/a\/b/s/c\/d/e/`, visit("g", "a/b", `s/c\/d/e/`))
	check(t, `g/a\`, visit("g", `a\`, "p"))
	check(t, `g/a\/`, visit("g", "a/", "p"))
	check(t, `v.a\.\\.d\`, visit("v", `a.\\`, `d\`))
}

// notSigns are the bytes between which no pattern stands.
const notSigns = "abcdefghijklmnopqrstuvwxyzABCDEFGHIJKLMNOPQRSTUVWXYZ0123456789 \t\"|\\&#!"

// TestSign: which bytes are one.
func TestSign(t *testing.T) {
	for n := range 256 {
		c := string([]byte{byte(n)})
		if strings.Contains(notSigns, c) {
			continue
		}
		check(t, "s"+c+"1"+c+"2"+c+"g3", put("1", "2").flags("g").count(3))
		check(t, "s \t"+c+`\`+c+c+`\`+c+`\\`+c+"n", put(c, c+`\\`).flags("n"))
		for _, name := range []string{"g", "v"} {
			check(t, name+c+"1"+c+"d"+c, visit(name, "1", "d"+c))
			check(t, name+" \t"+c+`\`+c, visit(name, c, "p"))
		}
	}
}

// TestNoSign: without one what was substituted last is done again, but nothing can be visited.
func TestNoSign(t *testing.T) {
	for _, c := range strings.ReplaceAll(notSigns, " \t", "") {
		refuse(t, api.ErrTrail, "s"+string(c)+"?a?b?", "substitute "+string(c)+"/a/b/")
		refuse(t, api.ErrCmd, "g"+string(c)+"a"+string(c), "v  "+string(c)+"a"+string(c)+"d")
	}
	refuse(t, api.ErrTrail, "s#a#b#", "s&a&b&", "s!a!b!", `s"a"b"`, "s|a|b|", `s\a\b\`, "sxaxbx", "s1a1b1", "sZaZbZ")
	refuse(t, api.ErrCmd, "g", "v", "g ", "v\t", "global", "vglobal  ", "3g", "g!", "gd", "g 3", "g#a#", "g&a&", "g|a|")
}

// TestAgain: flags, one right behind the other, and a number; Arg is nothing.
func TestAgain(t *testing.T) {
	for _, name := range []string{"s", "&", "&&", "~"} {
		check(t, name, named(name))
		check(t, name+"  ", named(name))
		for _, c := range "&cegiIn" {
			if name == "&" && c == '&' {
				continue // that is another name
			}
			check(t, name+string(c), named(name).flags(string(c)))
			check(t, name+" "+string(c)+"3", named(name).flags(string(c)).count(3))
		}
		check(t, name+"gg", named(name).flags("gg"))
		check(t, name+" &cegiIn 12 ", named(name).flags("&cegiIn").count(12))
		check(t, name+"nIige&c", named(name).flags("nIige&c"))
		check(t, name+"g&", named(name).flags("g&"))
		refuse(t, api.ErrTrail, name+"g c", name+"3g", name+" 3 g", name+"x", name+"gx", name+"C", name+"G", name+"E", name+"N", name+"r", name+"l", name+"p", name+"#", name+"g3c", name+"g!", name+"!", name+"g\x00", name+"g\n", name+"g\xff", name+"gｇ")
	}
	check(t, "s&", named("s").flags("&"))
	check(t, "s &g", named("s").flags("&g"))
	check(t, "~&", named("~").flags("&"))
	check(t, "~ g", named("~").flags("g"))
	refuse(t, api.ErrTrail, "&/a/b/", "&&/a/b/", "~/a/b/", "& /a/b/", "&\n", "~\xff", "&&ｇ", "&３", "~\xe7")
}

// TestVisits: all that stands behind the pattern is done, byte for byte; p, if that is nothing.
func TestVisits(t *testing.T) {
	for _, name := range []string{"g", "v"} {
		check(t, name+"/a/d", visit(name, "a", "d"))
		check(t, name+"/a/", visit(name, "a", "p"))
		check(t, name+"/a", visit(name, "a", "p"))
		check(t, name+"//", visit(name, "", "p"))
		check(t, name+"//d", visit(name, "", "d"))
		check(t, name+"/a/s/b/c/g 3 ", visit(name, "a", "s/b/c/g 3 "))
		check(t, name+"/a/ d", visit(name, "a", " d"))
		check(t, name+"/a/ ", visit(name, "a", " "))
		check(t, name+"/a/zz 1234567890", visit(name, "a", "zz 1234567890"))
		check(t, name+"/a/norm  x ", visit(name, "a", "norm  x "))
		check(t, name+"/a/g/b/d", visit(name, "a", "g/b/d"))
		check(t, name+"/a/\n\x00\xff|\"", visit(name, "a", "\n\x00\xff|\""))
		check(t, name+" \t/ a /d", visit(name, " a ", "d"))
		check(t, name+",a/b,d", visit(name, "a/b", "d"))
		check(t, "%"+name+"/a/d", visit(name, "a", "d").in(line(1), end))
	}
}

// TestKeys: one blank is passed over, then all that stands there are keys.
func TestKeys(t *testing.T) {
	for _, word := range []string{"norm", "normal"} {
		check(t, word+" x", named("norm").arg("x"))
		check(t, word+"x", named("norm").arg("x"))
		check(t, word+"\tx", named("norm").arg("x"))
		check(t, word+"  x", named("norm").arg(" x"))
		check(t, word+" \tx ", named("norm").arg("\tx "))
		check(t, word+"\t  ", named("norm").arg("  "))
		check(t, word+"  ", named("norm").arg(" "))
		check(t, word+" 3dd", named("norm").arg("3dd"))
		check(t, word+"3dd", named("norm").arg("3dd"))
		check(t, word+" Aa\x1bx\x00\xff|\"\n", named("norm").arg("Aa\x1bx\x00\xff|\"\n"))
		check(t, word+"!  x", named("norm").bang().arg(" x"))
		check(t, "1,2"+word+" x", named("norm").arg("x").in(line(1), line(2)))
		refuse(t, api.ErrTrail, word, word+" ", word+"\t", word+"!", word+"! ", "3"+word, "%"+word+" ")
	}
}

// TestBlanks: 20 and 09 are passed over, ahead, between and behind; no other byte is a blank.
func TestBlanks(t *testing.T) {
	check(t, "\t 1 \t, 2\t \td \tx\t 3 \t", named("d").in(line(1), line(2)).reg('x').count(3))
	check(t, " : 1 pu! \t a ", named("pu").in(line(1)).bang().reg('a'))
	check(t, "  s  /a/b/  g  3  ", put("a", "b").flags("g").count(3))
	check(t, "s/ a / b / g", put(" a ", " b ").flags("g"))
	check(t, "  m  3  ", named("m").to(line(3)))
	check(t, "  &&  g  3  ", named("&&").flags("g").count(3))
	check(t, "  >>  3  ", named(">").arg(">>").count(3))
	check(t, "  @  a  ", named("@").reg('a'))
	check(t, "  =  3  ", named("=").count(3))
	check(t, "  later  3  ", named("later").count(3))
	for _, c := range []string{"\n", "\v", "\f", "\r", "\x00", "\x1f", "\x85", "\xa0", "\xc2\xa0"} {
		refuse(t, api.ErrCmd, c+"p", "3"+c+"p")
		refuse(t, api.ErrTrail, "p"+c, "p"+c+"3", "d x"+c, "d x"+c+"3", "red"+c, "&"+c+"g", "s/a/b/"+c+"g", "s/a/b/g"+c+"3", "s/a/b/g3"+c, "m3"+c)
		refuse(t, api.ErrAddr, "m"+c+"3")
		check(t, "norm"+c+"x", named("norm").arg(c+"x"))
	}
	refuse(t, api.ErrCmd, "n orm x", "e arlier", "no rm x")
	refuse(t, api.ErrTrail, "d e lete", "u ndo", "p rint", "p12 3")
}

// TestLongRunes: bytes that together are a rune whose last eight bits are a digit, a flag, a blank or a sign are none of these.
func TestLongRunes(t *testing.T) {
	refuse(t, api.ErrTrail, "p\u0133", "p3\u0133", "&\u0167", "&g\u0167", "p\u0120", "p\u01203", "p \u0109", ">\u013e", ">>\u023e3", "d3\u0120", "s/a/b/\u0163", "~\u2026", "p1\U00010030")
	check(t, "s\u0133a", put("\xb3a", ""))
}

// TestFirstError: of several that apply, the one that is read first.
func TestFirstError(t *testing.T) {
	refuse(t, api.ErrLimit, "1234567890"+strings.Repeat("z", 1000))
	refuse(t, api.ErrAddr, "1234567890zz", "'", "1234567890k", "m%x", "m x", "m3,4 x", "m1234567890 x", "m! x")
	refuse(t, api.ErrCmd, "zz x", "g x", "v 1234567890", "l1234567890")
	refuse(t, api.ErrTrail, "m3 1234567890", "m3 x", "d1234567890 x", "s/a/b/g1234567890 x", "s1234567890/a/")
}
