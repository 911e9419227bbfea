package cmd_test

import (
	"slices"
	"strings"
	"testing"

	"emendator/api"
	"emendator/cmd"
)

// words are the chapter's, the long ones by the short.
func words() map[string][]string {
	return map[string][]string{
		"d": {"delete"}, "m": {"move"}, "t": {"co", "copy"}, "j": {"join"}, "y": {"yank"}, "pu": {"put"}, "k": {"mark"}, "s": {"substitute"}, "g": {"global"}, "v": {"vglobal"},
		"norm": {"normal"}, "u": {"undo"}, "red": {"redo"}, "earlier": nil, "later": nil, "p": {"print"},
	}
}

// least is the least that must stand behind a name, and what it is then.
func least(name string) (string, made) {
	m := named(name)
	switch name {
	case "m", "t":
		return "3", m.to(line(3))
	case "k":
		return "a", m.reg('a')
	case "g", "v":
		return "/x/", m.pat("x").arg("p")
	case "norm":
		return " x", m.arg("x")
	case ">", "<":
		return "", m.arg(name)
	}
	return "", m
}

func TestNames(t *testing.T) {
	want := []string{"d", "m", "t", "j", "y", "pu", "k", "s", "g", "v", "norm", "u", "red", "earlier", "later", "p"}
	names := cmd.Names()
	if !slices.Equal(names, want) {
		t.Fatalf("Names: %q, want %q", names, want)
	}
	clear(names[:cap(names)])
	for range 50 {
		if again := cmd.Names(); !slices.Equal(again, want) {
			t.Fatalf("Names once more: %q, want %q", again, want)
		}
	}
}

// TestWords: each one is told by the short one.
func TestWords(t *testing.T) {
	for _, name := range cmd.Names() {
		for _, word := range append(words()[name], name) {
			s, want := least(name)
			check(t, word+s, want)
			check(t, "3"+word+s, want.in(line(3)))
		}
	}
}

// TestSigns: each one, && not as &, and of > and < any number.
func TestSigns(t *testing.T) {
	for _, sign := range []string{"&&", "&", "~", "@", "="} {
		check(t, sign, named(sign))
		check(t, "3 "+sign, named(sign).in(line(3)))
	}
	check(t, "& &", named("&").flags("&"))
	check(t, "&&&", named("&&").flags("&"))
	check(t, "&&&&", named("&&").flags("&&"))
	check(t, "&&g", named("&&").flags("g"))
	check(t, "&g", named("&").flags("g"))
	check(t, "& &g3", named("&").flags("&g").count(3))
	for n := 1; n < 5; n++ {
		check(t, strings.Repeat(">", n), named(">").arg(">>>>"[:n]))
		check(t, strings.Repeat("<", n)+"2", named("<").arg("<<<<"[:n]).count(2))
	}
	refuse(t, api.ErrTrail, "><", "<>", ">><", "> >", "< <", "> 3>", "==", "~~", "&~", "&&~", "@a@", "~=", "=>", ">!")
}

// TestLongestWord: letters behind it stay, for what follows; a longer word is not looked for behind one that is none.
func TestLongestWord(t *testing.T) {
	check(t, "de", named("d").reg('e'))
	check(t, "dd", named("d").reg('d'))
	check(t, "deletee", named("d").reg('e'))
	check(t, "delete", named("d"))
	check(t, "ya", named("y").reg('a'))
	check(t, "yankk", named("y").reg('k'))
	check(t, "pua", named("pu").reg('a'))
	check(t, "put", named("pu"))
	check(t, "putt", named("pu").reg('t'))
	check(t, "pu t", named("pu").reg('t'))
	check(t, "km", named("k").reg('m'))
	check(t, "markk", named("k").reg('k'))
	check(t, "co3", named("t").to(line(3)))
	check(t, "copy3", named("t").to(line(3)))
	check(t, "t3", named("t").to(line(3)))
	check(t, "se", named("s").flags("e"))
	check(t, "sg", named("s").flags("g"))
	check(t, "sceginI3", named("s").flags("ceginI").count(3))
	check(t, "substituteg", named("s").flags("g"))
	check(t, "norma", named("norm").arg("a"))
	check(t, "normala", named("norm").arg("a"))
	check(t, "normalnorm", named("norm").arg("norm"))
	check(t, "norm al", named("norm").arg("al"))
	refuse(t, api.ErrTrail, "del", "delet", "jo", "joi", "ya2b", "yan", "puta2", "pr", "prin", "printt", "su", "substitut", "un", "und", "undoo", "redd", "redoo", "earliers", "laterr", "mark", "normal", "kmark", "uu", "pp", "joinj")
	refuse(t, api.ErrAddr, "mo3", "mov3", "ma", "mar", "movee", "cop3", "to3", "coo", "copyy", "tt")
	refuse(t, api.ErrCmd, "gl/a/", "globa/a/", "globall/a/", "vg/a/", "vglob/a/", "vglobally/a/", "gg", "vv")
}

// TestNoName: whatever is none of the words and signs.
func TestNoName(t *testing.T) {
	refuse(t, api.ErrCmd, "a", "b", "c", "e", "f", "h", "i", "l", "n", "o", "q", "r", "w", "x", "z",
		"ear", "earlie", "late", "la", "no", "nor", "re", "rd", "ed", "cp", "zd", "ab", "xdelete", "nnorm",
		"D", "Delete", "P", "S/a/b/", "G/a/", "Norm x", "U", "K", "!", "!d", "#", "\"", "|", "\\", "*", "(", ")", "[", "]", "^", "_", "`", "{", "}", "%%", "%1", "3:d", "1:", "1 2", "\x00", "\x00d", "\n", "\nd", "\r", "\v", "\x7f", "\x80", "\xff", "\xffd", "é", "ｄ")
	refuse(t, api.ErrCmd, "zz!", "zz 1234567890", "l 3", "nor x", "c/a/b/", "Dx y")
}

// TestBang: it stands right behind the name, once.
func TestBang(t *testing.T) {
	check(t, "j!", named("j").bang())
	check(t, "join! 3", named("j").bang().count(3))
	check(t, "pu!", named("pu").bang())
	check(t, "put!a", named("pu").bang().reg('a'))
	check(t, "pu! a", named("pu").bang().reg('a'))
	check(t, "g!/a/d", visit("g", "a", "d").bang())
	check(t, "global! /a/", visit("g", "a", "p").bang())
	check(t, "norm!x", named("norm").bang().arg("x"))
	check(t, "normal! x", named("norm").bang().arg("x"))
	check(t, "d!", named("d").bang())
	check(t, "delete!x3", named("d").bang().reg('x').count(3))
	check(t, "y! x 3", named("y").bang().reg('x').count(3))
	check(t, "yank!3", named("y").bang().count(3))
	check(t, "u!", named("u").bang())
	check(t, "undo!3", named("u").bang().count(3))
	check(t, "2,3j!", named("j").bang().in(line(2), line(3)))
}

// TestBangElsewhere: behind any other name, and not right behind it, it is a byte like others: a register, a mark, keys, or none that may follow.
func TestBangElsewhere(t *testing.T) {
	check(t, "d!!", named("d").bang().reg('!'))
	check(t, "d !", named("d").reg('!'))
	check(t, "y !3", named("y").reg('!').count(3))
	check(t, "pu!!", named("pu").bang().reg('!'))
	check(t, "pu !", named("pu").reg('!'))
	check(t, "norm!!", named("norm").bang().arg("!"))
	check(t, "norm !", named("norm").arg("!"))
	check(t, "k!", named("k").reg('!'))
	check(t, "mark!", named("k").reg('!'))
	check(t, "@!", named("@").reg('!'))
	check(t, "m/!", named("m").to(api.Addr{Kind: api.AdFore, Pat: "!"}))
	refuse(t, api.ErrTrail, "j!!", "j !", "u!!", "u !", "p!", "print!", "=!", ">!", "<!", "red!", "redo!", "earlier!", "later!", "s!", "s!a!b!", "substitute!/a/b/", "&!", "&&!", "~!", "p !", "norm!", "normal! ", "d3!")
	refuse(t, api.ErrAddr, "m!", "m!3", "t!3", "co! 3", "copy!3", "move!3", "m !")
	refuse(t, api.ErrCmd, "v!/a/", "vglobal!/a/", "v !/a/", "g!!/a/", "g !/a/", "g!", "g!!a!", "!", "3!")
}
