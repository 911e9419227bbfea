package edit_test

import (
	"testing"

	"emendator/api"
)

// TestStand: the cursor alone.
func TestStand(t *testing.T) {
	for _, row := range []struct{ from, to, at int }{{1, 1, 1}, {2, 2, 2}, {1, 3, 3}, {2, 3, 3}, {0, 2, 2}, {0, 0, 1}, {0, 1, 1}} {
		d := of(t, "a/b/c/d")
		d.goes(t, named(""), row.from, row.to, 0)
		d.check(t, "a/b/c/d", row.at, "a1 b2 c3 d4")
		d.checkOpen(t, "")
		d.checkHeld(t, `"=x/y 0=x/y`)
	}
}

func TestPrint(t *testing.T) {
	for _, row := range []struct {
		from, to int
		want     []string
	}{{1, 1, []string{"a"}}, {2, 2, []string{""}}, {1, 3, []string{"a", "", "\tc "}}, {2, 3, []string{"", "\tc "}}} {
		d := of(t, "a//\tc /d")
		d.tells(t, named("p"), row.from, row.to, 0, row.want...)
		d.check(t, "a//\tc /d", row.to, "a1 b2 c3 d4")
		d.checkOpen(t, "")
		d.checkHeld(t, `"=x/y 0=x/y`)
	}
	d := laidOut(t, long(1000), "\x00\n\r")
	d.tells(t, named("p"), 1, 2, 0, long(1000), "\x00\n\r")
	d = laidOut(t, many(2000)...)
	d.tells(t, named("p"), 1, 2000, 0, many(2000)...)
}

// TestPrintIsNew: what is told shares no memory with the lines that are there.
func TestPrintIsNew(t *testing.T) {
	l := lend("a line")
	d := laidOut(t, l.text())
	is, e := d.do(t, named("p"), 1, 1, 0)
	if l.gone(t); e != api.OK || len(is) != 1 || is[0] != "a line" {
		t.Errorf("p: %q, error %d", is, e)
	}
}

// TestNumber: the cursor stays.
func TestNumber(t *testing.T) {
	for _, row := range []struct {
		from, to int
		want     string
	}{{1, 1, "1"}, {2, 2, "2"}, {1, 3, "3"}, {0, 0, "0"}, {0, 2, "2"}} {
		d := of(t, "a/b/c/d")
		d.tells(t, named("="), row.from, row.to, 0, row.want)
		d.check(t, "a/b/c/d", 4, "a1 b2 c3 d4")
		d.checkOpen(t, "")
		d.checkHeld(t, `"=x/y 0=x/y`)
	}
	for n, want := range map[int]string{9: "9", 10: "10", 99: "99", 100: "100", 1234: "1234", 2000: "2000"} {
		laidOut(t, many(2000)...).tells(t, named("="), 1, n, 0, want)
	}
}

func TestDelete(t *testing.T) {
	for _, row := range []struct {
		from, to  int
		lines     string
		at        int
		marks     string
		open, cut string
	}{
		{1, 1, "b/c/d", 1, "b1 c2 d3", `0["a"][]`, "a"},
		{2, 2, "a/c/d", 2, "a1 c2 d3", `1["b"][]`, "b"},
		{2, 3, "a/d", 2, "a1 d2", `1["b" "c"][]`, "b/c"},
		{4, 4, "a/b/c", 3, "a1 b2 c3", `3["d"][]`, "d"},
		{3, 4, "a/b", 2, "a1 b2", `2["c" "d"][]`, "c/d"},
		{1, 3, "d", 1, "d1", `0["a" "b" "c"][]`, "a/b/c"},
		{1, 4, "", 1, "a1", `0["a" "b" "c" "d"][""]`, "a/b/c/d"}, // an empty line is left, in the place of the first
	} {
		d := of(t, "a/b/c/d")
		d.goes(t, named("d"), row.from, row.to, 0)
		d.check(t, row.lines, row.at, row.marks)
		d.checkOpen(t, row.open)
		d.checkHeld(t, `"=`+row.cut+` 0=x/y 1=`+row.cut)
	}
}

// TestDeleteGoes through the registers: what was deleted is in 1, then in 2.
func TestDeleteGoes(t *testing.T) {
	d := of(t, "a/b/c/d")
	d.goes(t, named("d"), 2, 2, 0)
	d.goes(t, named("d").reg('"'), 1, 1, 0)
	d.check(t, "c/d", 1, "c1 d2")
	d.checkHeld(t, `"=a 0=x/y 1=a 2=b`)
	d.goes(t, named("d").count(9), 1, 1, 0)
	d.checkHeld(t, `"=c/d 0=x/y 1=c/d 2=a 3=b`)
	d.goes(t, named("d"), 1, 1, 0)
	d.check(t, "", 1, "c1")
	d.checkHeld(t, `"= 0=x/y 1= 2=c/d 3=a 4=b`)
	d.checkOpen(t, `1["b"][] 0["a"][] 0["c" "d"][""] 0[""][""]`)
}

func TestDeleteInto(t *testing.T) {
	for _, row := range []struct {
		reg  byte
		want string
	}{
		{0, `"=b/c 0=x/y 1=b/c 2=p z-q`},
		{'"', `"=b/c 0=x/y 1=b/c 2=p z-q`},
		{'0', `"=b/c 0=b/c 1=p z-q`},
		{'1', `"=b/c 0=x/y 1=b/c z-q`},
		{'9', `"=b/c 0=x/y 1=p 9=b/c z-q`},
		{'a', `"=b/c 0=x/y 1=p a=b/c z-q`},
		{'A', `"=b/c 0=x/y 1=p a=b/c z-q`},
		{'z', `"=b/c 0=x/y 1=p z=b/c`},
		{'Z', `"=q/b/c 0=x/y 1=p z=q/b/c`},
		{'_', `"=x/y 0=x/y 1=p z-q`},
	} {
		d := of(t, "a/b/c/d")
		d.holds(t, '1', true, "p")
		d.holds(t, 'z', false, "q")
		d.holds(t, '"', true, "x/y")
		d.goes(t, named("d").reg(row.reg), 2, 3, 0)
		d.check(t, "a/d", 2, "a1 d2")
		d.checkHeld(t, row.want)
	}
}

func TestYank(t *testing.T) {
	for _, row := range []struct {
		from, to int
		reg      byte
		want     string
	}{
		{1, 1, 0, `"=a 0=a 1=p z-q`},
		{2, 4, 0, `"=b/c/d 0=b/c/d 1=p z-q`},
		{2, 3, '"', `"=b/c 0=b/c 1=p z-q`},
		{2, 3, '0', `"=b/c 0=b/c 1=p z-q`},
		{2, 3, '1', `"=b/c 0=x/y 1=b/c z-q`},
		{2, 3, 'a', `"=b/c 0=x/y 1=p a=b/c z-q`},
		{2, 3, 'A', `"=b/c 0=x/y 1=p a=b/c z-q`},
		{2, 3, 'z', `"=b/c 0=x/y 1=p z=b/c`},
		{2, 3, 'Z', `"=q/b/c 0=x/y 1=p z=q/b/c`},
		{2, 3, '_', `"=x/y 0=x/y 1=p z-q`},
	} {
		d := of(t, "a/b/c/d")
		d.holds(t, '1', true, "p")
		d.holds(t, 'z', false, "q")
		d.holds(t, '"', true, "x/y")
		d.goes(t, named("y").reg(row.reg), row.from, row.to, 0)
		d.check(t, "a/b/c/d", 4, "a1 b2 c3 d4")
		d.checkOpen(t, "")
		d.checkHeld(t, row.want)
	}
}

// noRegisters are bytes of which no register has the name.
func noRegisters() []byte {
	var l []byte
	for n := 1; n < 256; n++ {
		switch c := byte(n); {
		case c == '"', c == '_', c >= '0' && c <= '9', c >= 'a' && c <= 'z', c >= 'A' && c <= 'Z':
		default:
			l = append(l, c)
		}
	}
	return l
}

// TestNoRegister: there is none of that name.
func TestNoRegister(t *testing.T) {
	for _, c := range noRegisters() {
		d := of(t, "a/b/c")
		for _, name := range []string{"d", "y", "pu"} {
			d.refuses(t, api.ErrReg, named(name).reg(c), 2, 3, 0)
		}
		d.refuses(t, api.ErrReg, named("pu").bang().reg(c), 0, 0, 0)
	}
}

// TestMove: the cursor is then in the last of the lines that moved.
func TestMove(t *testing.T) {
	for _, row := range []struct {
		from, to, dest int
		lines          string
		at             int
		marks          string
		open           string
	}{
		{1, 1, 2, "b/a/c/d/e", 2, "a2 b1 c3 d4 e5", `0["a" "b"]["b" "a"]`},
		{1, 2, 4, "c/d/a/b/e", 4, "a3 b4 c1 d2 e5", `0["a" "b" "c" "d"]["c" "d" "a" "b"]`},
		{2, 4, 0, "b/c/d/a/e", 3, "a4 b1 c2 d3 e5", `0["a" "b" "c" "d"]["b" "c" "d" "a"]`}, // ahead of all
		{2, 4, 5, "a/e/b/c/d", 5, "a1 b3 c4 d5 e2", `1["b" "c" "d" "e"]["e" "b" "c" "d"]`}, // behind all
		{5, 5, 0, "e/a/b/c/d", 1, "a2 b3 c4 d5 e1", `0["a" "b" "c" "d" "e"]["e" "a" "b" "c" "d"]`},
		{4, 5, 2, "a/b/d/e/c", 4, "a1 b2 c5 d3 e4", `2["c" "d" "e"]["d" "e" "c"]`},
		{3, 3, 1, "a/c/b/d/e", 2, "a1 b3 c2 d4 e5", `1["b" "c"]["c" "b"]`},
		// where they are
		{2, 4, 1, "a/b/c/d/e", 4, "a1 b2 c3 d4 e5", ""},
		{2, 4, 4, "a/b/c/d/e", 4, "a1 b2 c3 d4 e5", ""},
		{1, 1, 0, "a/b/c/d/e", 1, "a1 b2 c3 d4 e5", ""},
		{3, 3, 3, "a/b/c/d/e", 3, "a1 b2 c3 d4 e5", ""},
		{1, 5, 0, "a/b/c/d/e", 5, "a1 b2 c3 d4 e5", ""},
		{1, 5, 5, "a/b/c/d/e", 5, "a1 b2 c3 d4 e5", ""},
		{5, 5, 4, "a/b/c/d/e", 5, "a1 b2 c3 d4 e5", ""},
	} {
		d := of(t, "a/b/c/d/e")
		d.b.Put(2)
		d.goes(t, named("m"), row.from, row.to, row.dest)
		d.check(t, row.lines, row.at, row.marks)
		d.checkOpen(t, row.open)
		d.checkHeld(t, `"=x/y 0=x/y`)
	}
}

func TestMoveIntoThemselves(t *testing.T) {
	d := of(t, "a/b/c/d/e")
	for _, row := range [][3]int{{2, 4, 2}, {2, 4, 3}, {1, 5, 1}, {1, 5, 4}, {4, 5, 4}} {
		d.refuses(t, api.ErrMove, named("m"), row[0], row[1], row[2])
	}
}

// noLines are numbers of lines behind which none can be put, of a text of five.
var noLines = []int{-1, -2, 6, 7, 1 << 40, -1 << 40, 1<<63 - 1, -1 << 63, -1<<63 + 1}

func TestToNoLine(t *testing.T) {
	d := of(t, "a/b/c/d/e")
	for _, dest := range noLines {
		for from := 1; from <= 5; from++ {
			for to := from; to <= 5; to++ {
				d.refuses(t, api.ErrRange, named("m"), from, to, dest)
				d.refuses(t, api.ErrRange, named("t"), from, to, dest)
			}
		}
	}
}

// TestDestIsAsked of m and t alone: what it is is nothing to the others.
func TestDestIsAsked(t *testing.T) {
	for _, name := range []string{"", "p", "=", "d", "y", "j", "pu", "k", ">", "<"} {
		for _, dest := range append([]int{1, 2, 3, 4, 5}, noLines...) {
			with, without := of(t, "a/b/c/d/e"), of(t, "a/b/c/d/e")
			with.do(t, command(name), 2, 3, dest)
			without.do(t, command(name), 2, 3, 0)
			if is, want := with.view(), without.view(); !is.same(want) {
				t.Errorf("%q, to %d: %v, want %v", name, dest, is, want)
			}
		}
	}
}

func TestCopy(t *testing.T) {
	for _, row := range []struct {
		from, to, dest int
		lines          string
		at             int
		marks          string
		open           string
	}{
		{1, 1, 1, "a/a/b/c/d", 2, "a1 b3 c4 d5", `1[]["a"]`},
		{2, 3, 0, "b/c/a/b/c/d", 2, "a3 b4 c5 d6", `0[]["b" "c"]`},       // ahead of all
		{2, 3, 4, "a/b/c/d/b/c", 6, "a1 b2 c3 d4", `4[]["b" "c"]`},       // behind all
		{1, 3, 1, "a/a/b/c/b/c/d", 4, "a1 b5 c6 d7", `1[]["a" "b" "c"]`}, // into themselves
		{1, 3, 2, "a/b/a/b/c/c/d", 5, "a1 b2 c6 d7", `2[]["a" "b" "c"]`},
		{1, 3, 3, "a/b/c/a/b/c/d", 6, "a1 b2 c3 d7", `3[]["a" "b" "c"]`},
		{1, 4, 0, "a/b/c/d/a/b/c/d", 4, "a5 b6 c7 d8", `0[]["a" "b" "c" "d"]`},
		{4, 4, 2, "a/b/d/c/d", 3, "a1 b2 c4 d5", `2[]["d"]`},
	} {
		d := of(t, "a/b/c/d")
		d.b.Put(2)
		d.goes(t, named("t"), row.from, row.to, row.dest)
		d.check(t, row.lines, row.at, row.marks)
		d.checkOpen(t, row.open)
		d.checkHeld(t, `"=x/y 0=x/y`)
	}
}

func TestJoinLines(t *testing.T) {
	const text = "a/  b/c /\t)d//e"
	for _, row := range []struct {
		from, to   int
		lines      string
		marks      string
		open       string
		bold, laid string
	}{
		{1, 1, "a b/c /\t)d//e", "a1 c2 d3 e4 f5", `0["a" "  b"]["a b"]`, "a  b/c /\t)d//e", `0["a" "  b"]["a  b"]`},
		{1, 2, "a b/c /\t)d//e", "a1 c2 d3 e4 f5", `0["a" "  b"]["a b"]`, "a  b/c /\t)d//e", `0["a" "  b"]["a  b"]`},
		{2, 3, "a/  b c /\t)d//e", "a1 b2 d3 e4 f5", `1["  b" "c "]["  b c "]`, "a/  bc /\t)d//e", `1["  b" "c "]["  bc "]`},
		{3, 3, "a/  b/c )d//e", "a1 b2 c3 e4 f5", `2["c " "\t)d"]["c )d"]`, "a/  b/c \t)d//e", `2["c " "\t)d"]["c \t)d"]`},
		{4, 4, "a/  b/c /\t)d/e", "a1 b2 c3 d4 f5", `3["\t)d" ""]["\t)d"]`, "a/  b/c /\t)d/e", `3["\t)d" ""]["\t)d"]`},
		{5, 5, "a/  b/c /\t)d/e", "a1 b2 c3 d4 e5", `4["" "e"]["e"]`, "a/  b/c /\t)d/e", `4["" "e"]["e"]`},
		{4, 6, "a/  b/c /\t)d e", "a1 b2 c3 d4", `3["\t)d" "" "e"]["\t)d e"]`, "a/  b/c /\t)de", `3["\t)d" "" "e"]["\t)de"]`},
		{1, 6, "a b c )d e", "a1", `0["a" "  b" "c " "\t)d" "" "e"]["a b c )d e"]`, "a  bc \t)de", `0["a" "  b" "c " "\t)d" "" "e"]["a  bc \t)de"]`},
	} {
		d := of(t, text)
		d.goes(t, named("j"), row.from, row.to, 0)
		d.check(t, row.lines, row.from, row.marks)
		d.checkOpen(t, row.open)
		d = of(t, text)
		d.goes(t, named("j").bang(), row.from, row.to, 0)
		d.check(t, row.bold, row.from, row.marks)
		d.checkOpen(t, row.laid)
		d.checkHeld(t, `"=x/y 0=x/y`)
	}
}

// TestJoinLast: there is nothing behind the last line.
func TestJoinLast(t *testing.T) {
	of(t, "a/b/c").refuses(t, api.ErrRange, named("j"), 3, 3, 0)
	of(t, "a/b/c").refuses(t, api.ErrRange, named("j").bang(), 3, 3, 0)
	of(t, "a").refuses(t, api.ErrRange, named("j"), 1, 1, 0)
	of(t, "").refuses(t, api.ErrRange, named("j"), 1, 1, 0)
}

func TestPut(t *testing.T) {
	for _, row := range []struct {
		from, to int
		bang     bool
		lines    string
		at       int
		marks    string
		open     string
	}{
		{1, 1, false, "a/x/y/b/c", 3, "a1 b4 c5", `1[]["x" "y"]`},
		{3, 3, false, "a/b/c/x/y", 5, "a1 b2 c3", `3[]["x" "y"]`},
		{1, 2, false, "a/b/x/y/c", 4, "a1 b2 c5", `2[]["x" "y"]`},
		{0, 0, false, "x/y/a/b/c", 2, "a3 b4 c5", `0[]["x" "y"]`},
		{0, 2, false, "a/b/x/y/c", 4, "a1 b2 c5", `2[]["x" "y"]`},
		{1, 1, true, "x/y/a/b/c", 2, "a3 b4 c5", `0[]["x" "y"]`},
		{3, 3, true, "a/b/x/y/c", 4, "a1 b2 c5", `2[]["x" "y"]`},
		{1, 2, true, "a/x/y/b/c", 3, "a1 b4 c5", `1[]["x" "y"]`},
		{0, 0, true, "x/y/a/b/c", 2, "a3 b4 c5", `0[]["x" "y"]`},
		{0, 1, true, "x/y/a/b/c", 2, "a3 b4 c5", `0[]["x" "y"]`},
		{0, 3, true, "a/b/x/y/c", 4, "a1 b2 c5", `2[]["x" "y"]`},
	} {
		d := of(t, "a/b/c")
		c := named("pu")
		c.Bang = row.bang
		d.goes(t, c, row.from, row.to, 0)
		d.check(t, row.lines, row.at, row.marks)
		d.checkOpen(t, row.open)
		d.checkHeld(t, `"=x/y 0=x/y`)
	}
}

func TestPutOf(t *testing.T) {
	for _, row := range []struct {
		reg  byte
		want string
		at   int
	}{
		{0, "a/n/b", 2},
		{'"', "a/n/b", 2},
		{'0', "a/o/u/b", 3},
		{'1', "a//b", 2},
		{'q', "a/p/q/r/b", 4}, // lines, though they are not Whole
		{'Q', "a/p/q/r/b", 4},
		{'z', "a/n/b", 2},
		{'Z', "a/n/b", 2},
	} {
		d := laidOut(t, "a", "b")
		d.holds(t, '"', true, "o/u")
		d.holds(t, '1', true, "")
		d.holds(t, 'q', false, "p/q/r")
		d.holds(t, 'z', false, "n")
		was := held(d.r)
		d.goes(t, named("pu").reg(row.reg), 1, 1, 0)
		d.check(t, row.want, row.at, map[int]string{2: "a1 b3", 3: "a1 b4", 4: "a1 b5"}[row.at])
		d.checkHeld(t, was)
		for _, reg := range []byte("ab_ABRM23456789") {
			d.refuses(t, api.ErrRegEmpty, named("pu").reg(reg), 1, 1, 0)
			d.refuses(t, api.ErrRegEmpty, named("pu").bang().reg(reg), 0, 0, 0)
		}
	}
	d := laidOut(t, "a")
	for _, reg := range []byte{0, '"', '0', '_'} {
		d.refuses(t, api.ErrRegEmpty, named("pu").reg(reg), 1, 1, 0)
	}
}

// TestMark: the last of the lines has it then, that is all.
func TestMark(t *testing.T) {
	for _, row := range []struct {
		from, to int
		reg      byte
		want     string
	}{
		{1, 1, 'x', "a1 b2 c3 x1"},
		{1, 3, 'x', "a1 b2 c3 x3"},
		{2, 3, 'a', "a3 b2 c3"},
		{2, 2, 'z', "a1 b2 c3 z2"},
		{1, 2, 'b', "a1 b2 c3"},
	} {
		d := of(t, "a/b/c")
		d.b.Put(2)
		d.goes(t, named("k").reg(row.reg), row.from, row.to, 0)
		d.check(t, "a/b/c", 2, row.want)
		d.checkOpen(t, "")
		d.checkHeld(t, `"=x/y 0=x/y`)
	}
}

// TestNoMark: none is meant where none is said, and of great letters there are none.
func TestNoMark(t *testing.T) {
	d := of(t, "a/b/c")
	for n := range 256 {
		if c := byte(n); c < 'a' || c > 'z' {
			d.refuses(t, api.ErrMark, named("k").reg(c), 2, 3, 0)
		}
	}
}

func TestShiftLines(t *testing.T) {
	const text = "a//\tc/   \td"
	for _, row := range []struct {
		signs    string
		from, to int
		lines    string
		open     string
	}{
		{">", 1, 1, "\ta//\tc/   \td", `0["a"]["\ta"]`},
		{">", 1, 4, "\ta//\t\tc/\t   \td", `0["a" "" "\tc" "   \td"]["\ta" "" "\t\tc" "\t   \td"]`},
		{">>>", 2, 3, "a//\t\t\t\tc/   \td", `1["" "\tc"]["" "\t\t\t\tc"]`},
		{"<", 3, 3, "a//c/   \td", `2["\tc"]["c"]`},
		{"<", 1, 4, "a//c/\td", `0["a" "" "\tc" "   \td"]["a" "" "c" "\td"]`},
		{"<<", 1, 4, "a//c/d", `0["a" "" "\tc" "   \td"]["a" "" "c" "d"]`},
		{"<<<<", 4, 4, "a//\tc/d", `3["   \td"]["d"]`},
		{">", 2, 2, text, `1[""][""]`}, // also then they are put in their own place
		{"<", 1, 2, text, `0["a" ""]["a" ""]`},
	} {
		d := of(t, text)
		d.b.Put(1)
		d.goes(t, shifted(row.signs), row.from, row.to, 0)
		d.check(t, row.lines, row.to, "a1 b2 c3 d4")
		d.checkOpen(t, row.open)
		d.checkHeld(t, `"=x/y 0=x/y`)
	}
}

// TestShiftByBytes: how many bytes Arg has counts, not which ones; which way is said by the name.
func TestShiftByBytes(t *testing.T) {
	for _, row := range []struct {
		name, arg, want string
	}{
		{">", "", "\t\tx"},
		{">", "<", "\t\t\tx"},
		{">", "\x00\xff", "\t\t\t\tx"},
		{">", "é", "\t\t\t\tx"},
		{">", long(200), tabs(200) + "\t\tx"},
		{">", long(201), tabs(200) + "\t\tx"},
		{">", long(5000), tabs(200) + "\t\tx"},
		{"<", "", "\t\tx"},
		{"<", ">", "\tx"},
		{"<", "\x00\xff", "x"},
		{"<", long(5000), "x"},
	} {
		d := laidOut(t, "\t\tx")
		d.goes(t, named(row.name).arg(row.arg), 1, 1, 0)
		d.check(t, row.want, 1, "a1")
	}
	d := laidOut(t, tabs(300)+"x")
	d.goes(t, shifted("<"+long(200)), 1, 1, 0)
	d.check(t, tabs(100)+"x", 1, "a1")
}
