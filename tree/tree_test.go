package tree_test

import (
	"math"
	"math/rand"
	"slices"
	"strconv"
	"strings"
	"testing"

	"emendator/tree"
)

// some are n lines, no two of which are the same, of many lengths.
func some(n int) []string {
	lines := make([]string, n)
	for i := range lines {
		lines[i] = strconv.Itoa(i) + strings.Repeat("x", i%5)
	}
	return lines
}

func sum(all []int) int {
	s := 0
	for _, n := range all {
		s += n
	}
	return s
}

// checkShape holds Shape against what the chapter says of any text of n lines.
func checkShape(t *testing.T, shape [][]int, n int) {
	t.Helper()
	if len(shape) == 0 || len(shape[0]) != 1 {
		t.Fatalf("%d lines: no top node: %v", n, shape)
	}
	if top := shape[0][0]; top > 8 || len(shape) > 1 && top < 2 {
		t.Fatalf("%d lines: the top node: %v", n, shape)
	}
	for i, level := range shape {
		below := n
		if i+1 < len(shape) {
			below = len(shape[i+1])
		}
		if sum(level) != below {
			t.Fatalf("%d lines: level %d has not what is below it: %v", n, i, shape)
		}
		if i > 0 && (slices.Min(level) < 4 || slices.Max(level) > 8) {
			t.Fatalf("%d lines: level %d has a node not of 4 to 8: %v", n, i, shape)
		}
	}
}

// check holds all that can be asked of a tree against the list that it is to be.
func check(t *testing.T, x *tree.Tree, want []string) {
	t.Helper()
	if x.Len() != len(want) || x.Bytes() != len(strings.Join(want, "")) {
		t.Fatalf("Len %d, Bytes %d, want %d, %d", x.Len(), x.Bytes(), len(want), len(strings.Join(want, "")))
	}
	if is := x.Lines(); !slices.Equal(is, want) {
		t.Fatalf("Lines: %q, want %q", is, want)
	}
	for i, line := range want {
		if is, ok := x.Get(i); !ok || is != line {
			t.Fatalf("Get(%d): %q %v, want %q", i, is, ok, line)
		}
	}
	checkShape(t, x.Shape(), len(want))
}

// rounds are counts of lines round a full node, a full top node, and the same a level deeper.
func rounds() []int {
	all := []int{}
	for n := range 22 {
		all = append(all, n)
	}
	for _, n := range []int{31, 32, 33, 34, 35, 36, 37, 40, 62, 63, 64, 65, 66, 127, 128, 129, 255, 256, 257, 511, 512, 513} {
		all = append(all, n)
	}
	return all
}

// places are the front, the middle, the end and what is round them, of n places.
func places(n int) []int {
	all := []int{}
	for _, i := range []int{0, 1, 3, 4, 5, 7, 8, 9, n / 4, n/2 - 1, n / 2, n/2 + 1, n - 9, n - 8, n - 5, n - 4, n - 2, n - 1} {
		if i >= 0 && i < n {
			all = append(all, i)
		}
	}
	slices.Sort(all)
	return slices.Compact(all)
}

func TestNew(t *testing.T) {
	for n := range 700 {
		check(t, tree.New(some(n)), some(n))
	}
	check(t, tree.New(some(20000)), some(20000))
}

func TestNewOfNoLines(t *testing.T) {
	for _, none := range [][]string{nil, {}} {
		x := tree.New(none)
		check(t, x, nil)
		if s := x.Shape(); len(s) != 1 || !slices.Equal(s[0], []int{0}) {
			t.Errorf("Shape: %v", s)
		}
	}
}

func TestNewOfNineLines(t *testing.T) {
	s := tree.New(some(9)).Shape()
	if len(s) != 2 || !slices.Equal(s[0], []int{2}) || len(s[1]) != 2 || sum(s[1]) != 9 || slices.Min(s[1]) < 4 {
		t.Errorf("Shape: %v", s)
	}
}

func TestFewLevels(t *testing.T) {
	for _, c := range []struct{ lines, most int }{{8, 1}, {9, 2}, {31, 2}, {127, 3}, {511, 4}, {2000, 5}, {20000, 7}} {
		if s := tree.New(some(c.lines)).Shape(); len(s) > c.most {
			t.Errorf("%d lines: %d levels", c.lines, len(s))
		}
	}
}

func TestInsertEverywhere(t *testing.T) {
	for _, n := range rounds() {
		for _, i := range places(n + 1) {
			x := tree.New(some(n))
			if !x.Insert(i, "new") {
				t.Fatalf("%d lines: Insert(%d): false", n, i)
			}
			check(t, x, slices.Insert(some(n), i, "new"))
		}
	}
}

func TestDeleteEverywhere(t *testing.T) {
	for _, n := range rounds() {
		for _, i := range places(n) {
			x := tree.New(some(n))
			if !x.Delete(i) {
				t.Fatalf("%d lines: Delete(%d): false", n, i)
			}
			check(t, x, slices.Delete(some(n), i, i+1))
		}
	}
}

func TestSetEverywhere(t *testing.T) {
	for _, n := range rounds() {
		for _, i := range places(n) {
			x, want := tree.New(some(n)), some(n)
			want[i] = "another one"
			if !x.Set(i, "another one") {
				t.Fatalf("%d lines: Set(%d): false", n, i)
			}
			check(t, x, want)
		}
	}
}

func TestSpliceAndPartEverywhere(t *testing.T) {
	for _, n := range []int{0, 1, 4, 7, 8, 9, 10, 17, 33, 64, 65, 257} {
		for _, i := range places(n + 1) {
			for _, m := range places(n - i + 1) {
				checkPart(t, n, i, m)
				for _, k := range []int{0, 1, 2, 5, 9, 40, 70} {
					checkSplice(t, n, i, m, k)
				}
			}
		}
	}
}

func checkPart(t *testing.T, n, i, m int) {
	t.Helper()
	x := tree.New(some(n))
	if is, ok := x.Part(i, m); !ok || !slices.Equal(is, some(n)[i:i+m]) {
		t.Fatalf("%d lines: Part(%d, %d): %q %v", n, i, m, is, ok)
	}
	check(t, x, some(n))
}

func checkSplice(t *testing.T, n, i, m, k int) {
	t.Helper()
	x := tree.New(some(n))
	lines := some(k + 1000)[1000:]
	if !x.Splice(i, m, lines) {
		t.Fatalf("%d lines: Splice(%d, %d): false", n, i, m)
	}
	check(t, x, slices.Replace(some(n), i, i+m, lines...))
}

// TestFillAndEmpty grows a text line by line and takes it away again, always at the front, in the middle or at the end; behind that the emptied tree is filled again.
func TestFillAndEmpty(t *testing.T) {
	ends := []func(n int) int{
		func(n int) int { return 0 },
		func(n int) int { return n / 2 },
		func(n int) int { return n },
	}
	for _, in := range ends {
		for _, out := range ends {
			x, want := tree.New(nil), []string(nil)
			for range 2 {
				for n, line := range some(150) {
					want = slices.Insert(want, in(n), line)
					if !x.Insert(in(n), line) {
						t.Fatal("Insert")
					}
					check(t, x, want)
				}
				for n := 149; n >= 0; n-- {
					want = slices.Delete(want, out(n), out(n)+1)
					if !x.Delete(out(n)) {
						t.Fatal("Delete")
					}
					check(t, x, want)
				}
			}
		}
	}
}

func TestEmptiedAtOnceAndFilledAgain(t *testing.T) {
	for _, n := range rounds() {
		x := tree.New(some(n))
		for range 3 {
			if !x.Splice(0, n, nil) {
				t.Fatal("Splice to nothing")
			}
			check(t, x, nil)
			if !x.Splice(0, 0, some(n)) {
				t.Fatal("Splice to nothing's place")
			}
			check(t, x, some(n))
		}
	}
}

func TestAnyBytes(t *testing.T) {
	lines := []string{"", "\x00", "\n", "\xff\xfe", "", "\r\n\x00", "ä", "", "\xc3", strings.Repeat("\x80", 5000), ""}
	x := tree.New(lines)
	check(t, x, lines)
	for i := range lines {
		x.Set(i, "")
	}
	check(t, x, make([]string, len(lines)))
	for i, line := range lines {
		x.Insert(2*i, line)
	}
	x.Splice(x.Len(), 0, lines)
	if x.Len() != 33 || x.Bytes() != 2*len(strings.Join(lines, "")) {
		t.Errorf("Len %d, Bytes %d", x.Len(), x.Bytes())
	}
}

// TestNoSuchLine asks for what is not there, on texts of many lengths: nothing is told and nothing changes.
func TestNoSuchLine(t *testing.T) {
	for _, n := range []int{0, 1, 4, 8, 9, 33, 64, 65, 300} {
		x := tree.New(some(n))
		shape := x.Shape()
		for _, i := range []int{math.MinInt, math.MinInt + 1, -n - 1, -n, -2, -1, n, n + 1, n + 2, 2*n + 1, math.MaxInt - 1, math.MaxInt} {
			if i != 0 && i != n && x.Insert(i, "y") {
				t.Errorf("%d lines: Insert(%d)", n, i)
			}
			if line, ok := x.Get(i); ok || line != "" {
				t.Errorf("%d lines: Get(%d): %q %v", n, i, line, ok)
			}
			if x.Delete(i) {
				t.Errorf("%d lines: Delete(%d)", n, i)
			}
			if x.Set(i, "y") {
				t.Errorf("%d lines: Set(%d)", n, i)
			}
		}
		check(t, x, some(n))
		if !slices.EqualFunc(shape, x.Shape(), slices.Equal) {
			t.Errorf("%d lines: the shape has changed", n)
		}
	}
}

// TestNoSuchPart asks for parts that are not all there; the sums of some of the numbers do not fit an int.
func TestNoSuchPart(t *testing.T) {
	for _, n := range []int{0, 1, 8, 9, 65, 300} {
		x := tree.New(some(n))
		shape := x.Shape()
		all := []int{math.MinInt, -n, -2, -1, 0, 1, n - 1, n, n + 1, 2 * n, math.MaxInt / 2, math.MaxInt/2 + 1, math.MaxInt - n, math.MaxInt - 1, math.MaxInt}
		for _, i := range all {
			for _, m := range all {
				if i >= 0 && m >= 0 && i <= n && m <= n-i {
					continue
				}
				if is, ok := x.Part(i, m); ok || len(is) > 0 {
					t.Errorf("%d lines: Part(%d, %d): %q %v", n, i, m, is, ok)
				}
				if x.Splice(i, m, []string{"y"}) || x.Splice(i, m, nil) {
					t.Errorf("%d lines: Splice(%d, %d)", n, i, m)
				}
			}
		}
		check(t, x, some(n))
		if !slices.EqualFunc(shape, x.Shape(), slices.Equal) {
			t.Errorf("%d lines: the shape has changed", n)
		}
	}
}

func TestWhatIsHandedInIsNotKept(t *testing.T) {
	for _, n := range []int{1, 4, 8, 9, 70} {
		behind := append(some(n), "behind")
		x := tree.New(behind[:n])
		if !x.Splice(n, 0, behind[:n]) {
			t.Fatal("Splice")
		}
		want := append(some(n), some(n)...)
		if !slices.Equal(behind, append(some(n), "behind")) {
			t.Errorf("changed: %q", behind)
		}
		for i := range behind {
			behind[i] = "other"
		}
		check(t, x, want)
		x.Set(0, "z")
		x.Delete(n)
		if slices.Contains(behind, "z") {
			t.Error("a tree and the list that it was made of share memory")
		}
	}
}

func TestWhatIsToldIsTheCallersOwn(t *testing.T) {
	for _, n := range []int{0, 1, 4, 8, 9, 64, 65, 300} {
		x := tree.New(some(n))
		part, _ := x.Part(0, n/2)
		for _, told := range [][]string{x.Lines(), part} {
			_ = append(told, "more")
			for i := range told {
				told[i] = "other"
			}
		}
		for _, level := range x.Shape() {
			_ = append(level, 99)
			for i := range level {
				level[i] = 99
			}
		}
		check(t, x, some(n))
		before := x.Lines()
		x.Splice(0, n, []string{"y"})
		if !slices.Equal(before, some(n)) {
			t.Errorf("%d lines: what was told has changed with the tree", n)
		}
	}
}

func TestTwoTrees(t *testing.T) {
	lines := some(40)
	x, y := tree.New(lines), tree.New(lines)
	z := tree.New(x.Lines())
	for range 20 {
		x.Delete(3)
		y.Insert(7, "y")
	}
	check(t, x, slices.Delete(some(40), 3, 23))
	check(t, y, slices.Insert(some(40), 7, slices.Repeat([]string{"y"}, 20)...))
	check(t, z, some(40))
}

// TestAnyCalls holds a tree against a list under long runs of calls, wrong ones among them.
func TestAnyCalls(t *testing.T) {
	for seed := range int64(12) {
		r := rand.New(rand.NewSource(seed))
		x, want := tree.New(nil), []string{}
		for step := range 1200 {
			want = oneCall(t, r, x, want)
			if step%10 == 0 {
				check(t, x, want)
			} else {
				checkShape(t, x.Shape(), len(want))
			}
		}
		check(t, x, want)
	}
}

// oneCall asks the tree for one change and answers what its lines are to be then.
func oneCall(t *testing.T, r *rand.Rand, x *tree.Tree, want []string) []string {
	t.Helper()
	i, line := r.Intn(len(want)+4)-2, some(30)[r.Intn(30)]
	is := i >= 0 && i < len(want)
	ok, was := false, want
	switch r.Intn(6) {
	case 0, 1:
		is = i >= 0 && i <= len(want)
		if ok = x.Insert(i, line); is {
			want = slices.Insert(want, i, line)
		}
	case 2, 3:
		if ok = x.Delete(i); is {
			want = slices.Delete(want, i, i+1)
		}
	case 4:
		if ok = x.Set(i, line); is {
			want[i] = line
		}
	case 5:
		n, lines := r.Intn(20)-1, some(r.Intn(24))
		is = i >= 0 && n >= 0 && i+n <= len(want)
		if ok = x.Splice(i, n, lines); is {
			want = slices.Replace(want, i, i+n, lines...)
		}
	}
	if ok != is {
		t.Fatalf("%d lines, %d: %v, want %v", len(was), i, ok, is)
	}
	return want
}
