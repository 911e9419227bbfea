package edit_test

import (
	"math"
	"strings"
	"testing"
)

// blanks, tabs are so many of them.
func blanks(n int) string { return strings.Repeat(" ", n) }

func tabs(n int) string { return strings.Repeat("\t", n) }

func TestShift(t *testing.T) {
	for _, row := range []struct {
		s     string
		times int
		want  string
	}{
		{"x", 1, "\tx"},
		{"x", 2, "\t\tx"},
		{"\tx", 1, "\t\tx"},
		{"  x", 3, "\t\t\t  x"},
		{" ", 1, "\t "},
		{"\t", 1, "\t\t"},
		{"\x00\xff", 1, "\t\x00\xff"},
		// an empty line stays
		{"", 1, ""},
		{"", 200, ""},
		{"", 0, ""},
		// below 1 it stays
		{"x", 0, "x"},
		{"\tx", 0, "\tx"},
		{"\tx", -1, "\tx"},
		{"  x", math.MinInt, "  x"},
		// above 200 is 200
		{"x", 199, tabs(199) + "x"},
		{"x", 200, tabs(200) + "x"},
		{"x", 201, tabs(200) + "x"},
		{"x", math.MaxInt, tabs(200) + "x"},
	} {
		if is := shift(t, row.s, row.times, false); is != row.want {
			t.Errorf("Shift of %q, %d: %q, want %q", row.s, row.times, is, row.want)
		}
	}
}

func TestShiftBack(t *testing.T) {
	for _, row := range []struct {
		s     string
		times int
		want  string
	}{
		{"\tx", 1, "x"},
		{"\t\tx", 1, "\tx"},
		{"\t\tx", 2, "x"},
		{"\tx", 2, "x"},
		{"x", 1, "x"},
		{"x\t", 1, "x\t"},
		{"\vx", 1, "\vx"},
		{"\xa0x", 1, "\xa0x"},
		{"\x00\tx", 1, "\x00\tx"},
		// up to eight blanks
		{" x", 1, "x"},
		{blanks(7) + "x", 1, "x"},
		{blanks(8) + "x", 1, "x"},
		{blanks(9) + "x", 1, " x"},
		{blanks(9) + "x", 2, "x"},
		{blanks(16) + "x", 1, blanks(8) + "x"},
		{blanks(17) + "x", 2, " x"},
		{blanks(20), 1, blanks(12)},
		{blanks(20), 3, ""},
		// mixed: one or the other
		{" \tx", 1, "\tx"},
		{" \tx", 2, "x"},
		{"\t x", 1, " x"},
		{"\t x", 2, "x"},
		{blanks(3) + "\t" + blanks(9) + "\tx", 1, "\t" + blanks(9) + "\tx"},
		{blanks(3) + "\t" + blanks(9) + "\tx", 2, blanks(9) + "\tx"},
		{blanks(3) + "\t" + blanks(9) + "\tx", 3, " \tx"},
		{blanks(3) + "\t" + blanks(9) + "\tx", 4, "\tx"},
		{blanks(3) + "\t" + blanks(9) + "\tx", 5, "x"},
		{blanks(8) + "\tx", 1, "\tx"},
		{"\t\x00\tx", 3, "\x00\tx"},
		{"\tx\ty", 9, "x\ty"},
		// an empty line, and one of which nothing is left
		{"", 1, ""},
		{"", 0, ""},
		{"\t", 1, ""},
		{"\t ", 2, ""},
		{"\t ", 9, ""},
		// below 1 it stays
		{"\tx", 0, "\tx"},
		{"\tx", -1, "\tx"},
		{" x", math.MinInt, " x"},
		// above 200 is 200
		{tabs(250) + "x", 199, tabs(51) + "x"},
		{tabs(250) + "x", 200, tabs(50) + "x"},
		{tabs(250) + "x", 201, tabs(50) + "x"},
		{tabs(250) + "x", math.MaxInt, tabs(50) + "x"},
		{blanks(1700), 201, blanks(100)},
		{tabs(3) + "x", math.MaxInt, "x"},
	} {
		if is := shift(t, row.s, row.times, true); is != row.want {
			t.Errorf("Shift of %q, %d, back: %q, want %q", row.s, row.times, is, row.want)
		}
	}
}

// TestShiftEachByte: of which bytes a line loses one that it begins with, and how many of them.
func TestShiftEachByte(t *testing.T) {
	for n := range 256 {
		c := string([]byte{byte(n)})
		s := strings.Repeat(c, 10)
		if is := shift(t, s, 1, false); is != "\t"+s {
			t.Errorf("Shift of %q: %q", s, is)
		}
		want := s
		switch c {
		case "\t":
			want = s[1:]
		case " ":
			want = s[8:]
		}
		if is := shift(t, s, 1, true); is != want {
			t.Errorf("Shift of %q, back: %q, want %q", s, is, want)
		}
	}
}

// TestShiftLong: no length is too great here.
func TestShiftLong(t *testing.T) {
	s := strings.Repeat("a", 1<<20)
	if is := shift(t, s, 200, false); is != tabs(200)+s {
		t.Errorf("Shift: %d bytes", len(is))
	}
	if is := shift(t, tabs(100)+blanks(800)+s, 200, true); is != s {
		t.Errorf("Shift, back: %d bytes", len(is))
	}
	if is := shift(t, blanks(1<<20), 200, true); is != blanks(1<<20-1600) {
		t.Errorf("Shift of blanks, back: %d bytes", len(is))
	}
}
