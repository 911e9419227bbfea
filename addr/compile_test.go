package addr_test

import (
	"reflect"
	"strings"
	"testing"

	"emendator/api"
	"emendator/pat"
	"emendator/prog"
)

// checkCompile says which pattern is told, and that the program is that pattern's, as layers 3 and 4 make it.
func checkCompile(t testing.TB, s, last, tilde string, fold bool, want string) api.Prog {
	t.Helper()
	p, is, e := compile(t, s, last, tilde, fold)
	if e != api.OK || is != want {
		t.Errorf("Compile of %.99q, %.99q, %.99q, %v: %.99q, error %d, want %.99q", s, last, tilde, fold, is, e, want)
	}
	nodes, f, _ := pat.Parse(want, tilde)
	made, g := prog.Compile(nodes, fold)
	if f != api.OK || g != api.OK || !reflect.DeepEqual(p, made) {
		t.Errorf("Compile of %.99q, %.99q, %.99q, %v: %.300v, want %.300v (errors %d, %d)", s, last, tilde, fold, p, made, f, g)
	}
	return p
}

func checkNoProgram(t testing.TB, s, last, tilde string, want api.Errno) {
	t.Helper()
	for _, fold := range []bool{false, true} {
		if _, is, e := compile(t, s, last, tilde, fold); e != want {
			t.Errorf("Compile of %.99q, %.99q, %.99q: %.99q, error %d, want error %d", s, last, tilde, is, e, want)
		}
	}
}

// aBig is a pattern of more than 2000 instructions, longPattern one of more than 300 bytes, longTilde a text for ~ of more than 1000.
const aBig = `\v((a{60}){60}){60}`

func longPattern() string { return strings.Repeat("a", api.MaxPat+1) }

func longTilde() string { return strings.Repeat("a", api.MaxLine+1) }

// TestCompileExact: the program of a single byte, written down.
func TestCompileExact(t *testing.T) {
	want := api.Prog{Code: []api.Inst{{Op: api.InByte, C: 'a'}, {Op: api.InMatch}}}
	if p := checkCompile(t, "a", "", "", false, "a"); !reflect.DeepEqual(p, want) {
		t.Errorf("the program is %v, want %v", p, want)
	}
}

// TestCompilePattern: what is told is the pattern as it stands, the last one where there is none.
func TestCompilePattern(t *testing.T) {
	for _, fold := range []bool{false, true} {
		checkCompile(t, "ab", "", "", fold, "ab")
		checkCompile(t, "ab", "xy", "", fold, "ab")
		checkCompile(t, "", "xy", "", fold, "xy")
		checkCompile(t, `\va+|(b)\1`, "x", "", fold, `\va+|(b)\1`)
		checkCompile(t, "", `\va+|(b)\1`, "", fold, `\va+|(b)\1`)
		checkCompile(t, " ", "x", "", fold, " ")
		checkCompile(t, "\x00", "x", "", fold, "\x00")
		checkCompile(t, `\v`, "x", "", fold, `\v`)
		checkCompile(t, "^$", "", "", fold, "^$")
		// The last one is not read, if it is not asked for.
		checkCompile(t, "a", `\(`, "", fold, "a")
		checkCompile(t, "a", longPattern(), "", fold, "a")
	}
}

// TestCompileTilde: ~ stands for it in the program, not in the pattern that is told.
func TestCompileTilde(t *testing.T) {
	checkCompile(t, "a~", "", "xy", false, "a~")
	checkCompile(t, "", "a~*", "xy", false, "a~*")
	checkCompile(t, "~", "", "", false, "~")
	checkCompile(t, `\~`, "", "xy", false, `\~`)
	checkCompile(t, "a", "", longTilde()[1:], false, "a")
	with, _, _ := compile(t, "a~", "", "xy", false)
	without, _, _ := compile(t, "axy", "", "", false)
	if !reflect.DeepEqual(with, without) {
		t.Errorf("a~ of xy is %v, axy is %v", with, without)
	}
}

// TestCompileFold: fold is asked for; a pattern may say otherwise.
func TestCompileFold(t *testing.T) {
	for _, one := range []struct {
		s           string
		asked, fold bool
	}{{"a", false, false}, {"a", true, true}, {`\ca`, false, true}, {`\ca`, true, true}, {`\Ca`, false, false}, {`\Ca`, true, false}} {
		for _, s := range [][2]string{{one.s, "b"}, {"", one.s}} {
			if p, _, e := compile(t, s[0], s[1], "", one.asked); e != api.OK || p.Fold != one.fold {
				t.Errorf("Compile of %q, %q, %v: Fold is %v (error %d)", s[0], s[1], one.asked, p.Fold, e)
			}
		}
	}
}

// TestCompileNone: neither a pattern nor a last one, ahead of all that could be wrong with ~.
func TestCompileNone(t *testing.T) {
	checkNoProgram(t, "", "", "", api.ErrFind)
	checkNoProgram(t, "", "", "x", api.ErrFind)
	checkNoProgram(t, "", "", longTilde(), api.ErrFind)
}

// TestCompileErrors: those of layers 3 and 4, of a pattern or, if it is empty, of the last one.
func TestCompileErrors(t *testing.T) {
	for s, want := range map[string]api.Errno{
		`\y`: api.ErrPatForm, `\`: api.ErrPatForm, `[b-a]`: api.ErrPatForm,
		`\(a`: api.ErrPatGroup, `a\)`: api.ErrPatGroup, `\1`: api.ErrPatGroup,
		`a\+\+`: api.ErrPatMany, `a\{61}`: api.ErrPatMany,
		longPattern(): api.ErrPatBig, `\v` + strings.Repeat("(a|b)", 9) + strings.Repeat("[ab]?", 50) + "~": api.ErrPatBig,
		aBig: api.ErrPatBig,
	} {
		for _, tilde := range []string{"", strings.Repeat("x", 1000)} {
			if strings.HasSuffix(s, "~") && tilde == "" {
				continue
			}
			checkNoProgram(t, s, "", tilde, want)
			checkNoProgram(t, s, "a", tilde, want)
			checkNoProgram(t, "", s, tilde, want)
		}
	}
	checkNoProgram(t, "a", "", longTilde(), api.ErrPatBig)
	checkNoProgram(t, "", "a", longTilde(), api.ErrPatBig)
	checkNoProgram(t, `\(a`, "", longTilde(), api.ErrPatBig)
	// The pattern itself is wrong ahead of its program.
	checkNoProgram(t, aBig+`\y`, "", "", api.ErrPatForm)
	checkNoProgram(t, aBig+`)`, "", "", api.ErrPatGroup)
}
