package regs_test

import (
	"strings"
	"testing"

	"emendator/api"
	"emendator/regs"
)

// TestCutNameless: in it, and in 1; those that were deleted earlier go on to 9, and are then gone.
func TestCutNameless(t *testing.T) {
	r := regs.New()
	for i, want := range []string{
		`"-a 1-a`,
		`"-b 1-b 2-a`,
		`"-c 1-c 2-b 3-a`,
		`"-d 1-d 2-c 3-b 4-a`,
		`"-e 1-e 2-d 3-c 4-b 5-a`,
		`"-f 1-f 2-e 3-d 4-c 5-b 6-a`,
		`"-g 1-g 2-f 3-e 4-d 5-c 6-b 7-a`,
		`"-h 1-h 2-g 3-f 4-e 5-d 6-c 7-b 8-a`,
		`"-i 1-i 2-h 3-g 4-f 5-e 6-d 7-c 8-b 9-a`,
		`"-j 1-j 2-i 3-h 4-g 5-f 6-e 7-d 8-c 9-b`,
		`"-k 1-k 2-j 3-i 4-h 5-g 6-f 7-e 8-d 9-c`,
	} {
		cut(t, r, '"', part(string(rune('a'+i))))
		check(t, r, want)
	}
}

// TestCutLeavesZero: nothing comes into 0 beside another register; what was yanked into it stays.
func TestCutLeavesZero(t *testing.T) {
	for _, name := range []byte(known) {
		if name == '0' {
			continue
		}
		r := regs.New()
		cut(t, r, name, part("x"))
		if _, e := r.Get('0'); e != api.ErrRegEmpty {
			t.Errorf("Cut(%q): there is something in 0, error %d", name, e)
		}
		yank(t, r, '"', whole("y"))
		cut(t, r, name, part("x"))
		checkIs(t, r, '0', whole("y"))
	}
}

// TestCutIntoZero: if it is the one that is said, it is one as others are.
func TestCutIntoZero(t *testing.T) {
	r := regs.New()
	cut(t, r, '0', part("x"))
	check(t, r, `"-x 0-x`)
	cut(t, r, '0', whole("y"))
	check(t, r, `"=y 0=y`)
	cut(t, r, '"', part("z"))
	check(t, r, `"-z 0=y 1-z`)
}

// TestOnlyNamelessGoesOn: by any other name, and by Yank, 1 to 9 stay where they are.
func TestOnlyNamelessGoesOn(t *testing.T) {
	for _, name := range []byte(known) {
		r := regs.New()
		cut(t, r, '"', whole("x"))
		cut(t, r, '"', whole("y"))
		yank(t, r, name, whole("z"))
		if name != '"' {
			cut(t, r, name, whole("z"))
		}
		if name != '1' {
			checkIs(t, r, '1', whole("y"))
		}
		if name != '2' {
			checkIs(t, r, '2', whole("x"))
		}
		if _, e := r.Get('3'); name != '3' && e != api.ErrRegEmpty {
			t.Errorf("%q: there is something in 3, error %d", name, e)
		}
	}
}

// TestGapsGoOn: of all ways in which some of 1 to 9 have something and others nothing: each is what the one ahead of it was, empty if that was.
func TestGapsGoOn(t *testing.T) {
	for set := range 1 << 9 {
		r := regs.New()
		want := map[byte]api.Reg{'"': part("new"), '1': part("new")}
		for i := range 9 {
			if set>>i&1 == 1 {
				x := api.Reg{Lines: []string{"of", strings.Repeat("x", i)}, Whole: i%2 == 0}
				yank(t, r, byte('1'+i), x)
				if i < 8 {
					want[byte('2'+i)] = x
				}
			}
		}
		cut(t, r, '"', part("new"))
		checkAll(t, r, want)
	}
}

// TestGapsGoOnAndOn: an empty one among them goes to the end, and is gone there.
func TestGapsGoOnAndOn(t *testing.T) {
	r := regs.New()
	yank(t, r, '1', part("a"))
	yank(t, r, '3', whole("b"))
	yank(t, r, '9', part("c"))
	check(t, r, `"-c 1-a 3=b 9-c`)
	cut(t, r, '"', part("d"))
	check(t, r, `"-d 1-d 2-a 4=b`)
	cut(t, r, '"', part("e"))
	check(t, r, `"-e 1-e 2-d 3-a 5=b`)
	for range 4 {
		cut(t, r, '"', part())
	}
	check(t, r, `"- 1- 2- 3- 4- 5-e 6-d 7-a 9=b`)
	cut(t, r, '"', whole("f"))
	check(t, r, `"=f 1=f 2- 3- 4- 5- 6-e 7-d 8-a`)
	cut(t, r, '"', whole("g"))
	check(t, r, `"=g 1=g 2=f 3- 4- 5- 6- 7-e 8-d 9-a`)
}

// TestCutWhatIsYanked: what was yanked last is not what is deleted: it is not taken on.
func TestCutWhatIsYanked(t *testing.T) {
	r := regs.New()
	yank(t, r, '"', part("y"))
	cut(t, r, '"', part("x"))
	check(t, r, `"-x 0-y 1-x`)
	yank(t, r, 'b', part("z"))
	cut(t, r, '"', part("p", "q"))
	check(t, r, `"-p|q 0-y 1-p|q 2-x b-z`)
}
