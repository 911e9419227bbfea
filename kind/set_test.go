package kind_test

import (
	"testing"

	"emendator/api"
	"emendator/kind"
)

const all64 = 1<<64 - 1

// bounds are the first and the last byte of each element of a set.
var bounds = [...]byte{0, 63, 64, 127, 128, 191, 192, 255}

func TestSetsAtTheBoundsOfTheirElements(t *testing.T) {
	for _, x := range []struct {
		c    byte
		want api.Set
	}{
		{0, api.Set{1}},
		{63, api.Set{1 << 63}},
		{64, api.Set{0, 1}},
		{127, api.Set{0, 1 << 63}},
		{128, api.Set{0, 0, 1}},
		{191, api.Set{0, 0, 1 << 63}},
		{192, api.Set{0, 0, 0, 1}},
		{255, api.Set{0, 0, 0, 1 << 63}},
	} {
		if s := kind.With(api.Set{}, x.c); s != x.want {
			t.Errorf("With(nothing, %d): %x", x.c, s)
		}
		for c := range 256 {
			if kind.Has(x.want, byte(c)) != (byte(c) == x.c) {
				t.Errorf("Has(%x, %d)", x.want, c)
			}
		}
	}
}

func TestHasAndWithOfEachByte(t *testing.T) {
	full := api.Set{all64, all64, all64, all64}
	for i := range 256 {
		c := byte(i)
		if kind.Has(api.Set{}, c) || !kind.Has(full, c) {
			t.Errorf("Has of nothing, of all: %d", c)
		}
		s := kind.With(api.Set{}, c)
		if kind.With(s, c) != s || kind.With(full, c) != full {
			t.Errorf("With(%d) of what is there changes it", c)
		}
		for j := range 256 {
			if d := byte(j); kind.Has(s, d) != (c == d) || bit(s, d) != (c == d) {
				t.Errorf("With(nothing, %d): wrong for %d", c, d)
			}
		}
	}
}

func TestWithKeepsTheOthers(t *testing.T) {
	s := api.Set{}
	for i, c := range bounds {
		s = kind.With(s, c)
		for j, d := range bounds {
			if kind.Has(s, d) != (j <= i) {
				t.Errorf("With(.., %d): wrong for %d", c, d)
			}
		}
	}
	if s != (api.Set{1 | 1<<63, 1 | 1<<63, 1 | 1<<63, 1 | 1<<63}) {
		t.Errorf("With of all bounds: %x", s)
	}
}

func TestNot(t *testing.T) {
	full := api.Set{all64, all64, all64, all64}
	if kind.Not(api.Set{}) != full || kind.Not(full) != (api.Set{}) {
		t.Error("Not of nothing, of all")
	}
	s := api.Set{1, 1 << 63, 0x0123456789abcdef, 5}
	if n := kind.Not(s); n != (api.Set{all64 - 1, all64 >> 1, 0xfedcba9876543210, all64 - 5}) {
		t.Errorf("Not(%x): %x", s, n)
	}
	for i := range 256 {
		c := byte(i)
		if kind.Has(kind.Not(s), c) == kind.Has(s, c) {
			t.Errorf("Not: %d", c)
		}
		if one := kind.With(api.Set{}, c); kind.Has(kind.Not(one), c) || kind.Not(kind.Not(one)) != one {
			t.Errorf("Not of %d alone", c)
		}
	}
}

func TestBoth(t *testing.T) {
	a := api.Set{1, 2, 1 << 63, 0}
	b := api.Set{3, 4, 1, 1 << 63}
	want := api.Set{3, 6, 1 | 1<<63, 1 << 63}
	if kind.Both(a, b) != want || kind.Both(b, a) != want {
		t.Errorf("Both: %x, %x", kind.Both(a, b), kind.Both(b, a))
	}
	if kind.Both(a, api.Set{}) != a || kind.Both(api.Set{}, a) != a || kind.Both(a, a) != a {
		t.Error("Both with nothing, with itself")
	}
	for i := range 256 {
		c := byte(i)
		if kind.Has(kind.Both(a, b), c) != (bit(a, c) || bit(b, c)) {
			t.Errorf("Both: %d", c)
		}
	}
}

func TestWhatIsHandedInStays(t *testing.T) {
	a, b := api.Set{1, 2, 3, 4}, api.Set{8, 8, 8, 8}
	kind.Has(a, 255)
	kind.With(a, 255)
	kind.Not(a)
	kind.Both(a, b)
	if a != (api.Set{1, 2, 3, 4}) || b != (api.Set{8, 8, 8, 8}) {
		t.Errorf("%x, %x", a, b)
	}
}

func TestAnswersAreNew(t *testing.T) {
	s, _ := kind.Of('d')
	n, _ := kind.Named("digit")
	s[0], n[0] = 0, 0
	again, _ := kind.Of('d')
	named, _ := kind.Named("digit")
	if want := (api.Set{0x03ff000000000000}); again != want || named != want {
		t.Errorf("%x, %x", again, named)
	}
}
