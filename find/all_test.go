package find_test

import (
	"math"
	"slices"
	"testing"

	"emendator/api"
	"emendator/find"
	"emendator/tree"
)

func TestAllSomeFit(t *testing.T) {
	x, b := text("a b c b b"), read(t, "b")
	checkAll(t, x, b, 1, 5, false, "2 4 5")
	checkAll(t, x, b, 1, 5, true, "1 3")
	checkAll(t, x, b, 2, 4, false, "2 4")
	checkAll(t, x, b, 2, 4, true, "3")
	checkAll(t, x, b, 3, 3, false, "")
	checkAll(t, x, b, 3, 3, true, "3")
	checkAll(t, x, b, 4, 5, false, "4 5")
	checkAll(t, x, b, 4, 5, true, "")
}

func TestAllNoneFitsOrEachDoes(t *testing.T) {
	x := text("a b c d")
	checkAll(t, x, read(t, "z"), 1, 4, false, "")
	checkAll(t, x, read(t, "z"), 1, 4, true, "1 2 3 4")
	checkAll(t, x, read(t, "z*"), 1, 4, false, "1 2 3 4")
	checkAll(t, x, read(t, "z*"), 1, 4, true, "")
	checkAll(t, x, read(t, "z*"), 2, 3, false, "2 3")
}

func TestAllFirstAndLastLine(t *testing.T) {
	x, b := text("b a b"), read(t, "b")
	checkAll(t, x, b, 1, 3, false, "1 3")
	checkAll(t, x, b, 1, 1, false, "1")
	checkAll(t, x, b, 3, 3, false, "3")
	checkAll(t, x, b, 1, 1, true, "")
	checkAll(t, x, b, 3, 3, true, "")
	checkAll(t, x, b, 2, 2, true, "2")
}

func TestAllOneLine(t *testing.T) {
	x := text("a")
	checkAll(t, x, read(t, "a"), 1, 1, false, "1")
	checkAll(t, x, read(t, "a"), 1, 1, true, "")
	checkAll(t, x, read(t, "b"), 1, 1, false, "")
	checkAll(t, x, read(t, "b"), 1, 1, true, "1")
}

func TestAllNoLines(t *testing.T) {
	for _, ends := range [][2]int{{0, 0}, {1, 0}, {1, 1}, {0, 1}, {-1, 0}} {
		checkAll(t, text(""), read(t, "z*"), ends[0], ends[1], false, errArg)
		checkAll(t, text(""), read(t, "z*"), ends[0], ends[1], true, errArg)
	}
}

func TestAllRefusesLines(t *testing.T) {
	x, a := text("a a a"), read(t, "a")
	wrong := [][2]int{{0, 3}, {-1, 3}, {1, 4}, {0, 4}, {4, 4}, {2, 1}, {3, 2}, {3, 1}, {1, 0}, {0, 0}, {4, 3}, {1, -1},
		{math.MinInt, 3}, {1, math.MaxInt}, {math.MinInt, math.MaxInt}, {math.MaxInt, math.MinInt},
		{math.MaxInt, math.MaxInt}, {math.MinInt, math.MinInt}, {1, math.MinInt}, {math.MaxInt, 3}, {1, 1<<32 + 1}}
	for _, ends := range wrong {
		for _, not := range []bool{false, true} {
			checkAll(t, x, a, ends[0], ends[1], not, errArg)
			checkAll(t, tree.New([]string{endless, endless, endless}), read(t, costly), ends[0], ends[1], not, errArg)
		}
	}
}

func TestAllRefusesPrograms(t *testing.T) {
	for why, p := range unsound() {
		t.Log(why)
		for _, not := range []bool{false, true} {
			checkAll(t, text("b b"), p, 1, 2, not, errArg)
			checkAll(t, text("b b"), p, 2, 2, not, errArg)
			checkAll(t, text(""), p, 1, 0, not, errArg)
		}
	}
}

// TestAllFirstError: an error in one of the lines is that of all, and nothing is told of those ahead of it; lines beyond the range are not tried.
func TestAllFirstError(t *testing.T) {
	x, p := tree.New([]string{"f", "n", endless, "f", "n"}), read(t, costly)
	for _, not := range []bool{false, true} {
		checkAll(t, x, p, 1, 5, not, errSteps)
		checkAll(t, x, p, 1, 3, not, errSteps)
		checkAll(t, x, p, 3, 3, not, errSteps)
		checkAll(t, x, p, 3, 5, not, errSteps)
	}
	checkAll(t, x, p, 1, 2, false, "1")
	checkAll(t, x, p, 1, 2, true, "2")
	checkAll(t, x, p, 4, 5, false, "4")
	checkAll(t, x, p, 4, 5, true, "5")
}

// TestAllIsNew: what one call told is not changed by another one, nor by what is done with that.
func TestAllIsNew(t *testing.T) {
	x, b := text("b a b a b"), read(t, "b")
	first, _ := find.All(x, b, 1, 5, false)
	second, _ := find.All(x, b, 1, 5, false)
	clear(second[:cap(second)])
	third, e := find.All(x, b, 2, 5, false)
	if e != api.OK || !slices.Equal(first, []int{1, 3, 5}) || !slices.Equal(third, []int{3, 5}) {
		t.Errorf("%v, %v, error %d", first, third, e)
	}
}

// TestAllOfManyLines: each line is either told or, by not, told the other time.
func TestAllOfManyLines(t *testing.T) {
	const last = 2000
	lines := make([]string, last)
	for i := range lines {
		lines[i] = []string{"abc", "", "b", "x", "aab"}[i*i%11%5]
	}
	x, b := tree.New(lines), read(t, "b")
	for _, ends := range [][2]int{{1, last}, {2, last - 1}, {1, 1}, {last, last}, {700, 1400}, {8, 9}} {
		want := map[bool][]int{}
		for n := ends[0]; n <= ends[1]; n++ {
			not := lines[n-1] == "" || lines[n-1] == "x"
			want[not] = append(want[not], n)
		}
		for _, not := range []bool{false, true} {
			if is, e := find.All(x, b, ends[0], ends[1], not); e != api.OK || !slices.Equal(is, want[not]) {
				t.Errorf("All of %v, not %t: %v, error %d, want %v", ends, not, is, e, want[not])
			}
		}
	}
}
