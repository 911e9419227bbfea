package kind_test

import (
	"testing"

	"emendator/api"
	"emendator/kind"
)

// span is two bytes and all between them.
type span struct{ first, last byte }

// spansOfClass says the chapter's classes again, as spans of numbers, so that the tests do not lean on the code they try.
func spansOfClass() map[byte][]span {
	return map[byte][]span{
		'd': {{0x30, 0x39}},
		'x': {{0x30, 0x39}, {0x41, 0x46}, {0x61, 0x66}},
		'o': {{0x30, 0x37}},
		'w': {{0x30, 0x39}, {0x41, 0x5a}, {0x5f, 0x5f}, {0x61, 0x7a}},
		'h': {{0x41, 0x5a}, {0x5f, 0x5f}, {0x61, 0x7a}},
		'a': {{0x41, 0x5a}, {0x61, 0x7a}},
		'l': {{0x61, 0x7a}},
		'u': {{0x41, 0x5a}},
		's': {{0x09, 0x09}, {0x20, 0x20}},
	}
}

func spansOfName() map[string][]span {
	return map[string][]span{
		"alpha":  {{0x41, 0x5a}, {0x61, 0x7a}},
		"digit":  {{0x30, 0x39}},
		"alnum":  {{0x30, 0x39}, {0x41, 0x5a}, {0x61, 0x7a}},
		"lower":  {{0x61, 0x7a}},
		"upper":  {{0x41, 0x5a}},
		"blank":  {{0x09, 0x09}, {0x20, 0x20}},
		"space":  {{0x09, 0x0d}, {0x20, 0x20}},
		"xdigit": {{0x30, 0x39}, {0x41, 0x46}, {0x61, 0x66}},
		"cntrl":  {{0x00, 0x1f}, {0x7f, 0x7f}},
		"punct":  {{0x21, 0x2f}, {0x3a, 0x40}, {0x5b, 0x60}, {0x7b, 0x7e}},
	}
}

func within(l []span, c byte) bool {
	for _, s := range l {
		if s.first <= c && c <= s.last {
			return true
		}
	}
	return false
}

// bit reads a set as DOC.md lays it out, without package kind.
func bit(s api.Set, c byte) bool { return s[int(c)/64]>>(uint(c)%64)&1 == 1 }

func setOf(l []span) api.Set {
	var s api.Set
	for c := range 256 {
		if within(l, byte(c)) {
			s[c/64] |= 1 << (c % 64)
		}
	}
	return s
}

// checkClass tries one class on each byte, by Is, by Of, and by Has of what Of answers.
func checkClass(t *testing.T, class byte, want func(c byte) bool) {
	t.Helper()
	if !kind.Known(class) {
		t.Errorf("Known(%q): false", class)
	}
	s, ok := kind.Of(class)
	if !ok {
		t.Errorf("Of(%q): false", class)
	}
	for i := range 256 {
		c := byte(i)
		if kind.Is(class, c) != want(c) {
			t.Errorf("Is(%q, %#02x): %t", class, c, !want(c))
		}
		if bit(s, c) != want(c) || kind.Has(s, c) != want(c) {
			t.Errorf("Of(%q): wrong for %#02x", class, c)
		}
	}
}

func TestEachClassOverAllBytes(t *testing.T) {
	for small, l := range spansOfClass() {
		checkClass(t, small, func(c byte) bool { return within(l, c) })
		checkClass(t, small-'a'+'A', func(c byte) bool { return !within(l, c) })
	}
}

func TestClassAtTheEndsOfItsSpans(t *testing.T) {
	for small, l := range spansOfClass() {
		great := small - 'a' + 'A'
		for _, s := range l {
			for _, c := range []byte{s.first, s.last} {
				if !kind.Is(small, c) || kind.Is(great, c) {
					t.Errorf("%q: %#02x is not in it", small, c)
				}
			}
			for _, c := range []byte{s.first - 1, s.last + 1} {
				if !within(l, c) && (kind.Is(small, c) || !kind.Is(great, c)) {
					t.Errorf("%q: %#02x is in it", small, c)
				}
			}
		}
	}
}

func TestClassAndItsOther(t *testing.T) {
	all := setOf([]span{{0x00, 0xff}})
	for small := range spansOfClass() {
		a, _ := kind.Of(small)
		b, _ := kind.Of(small - 'a' + 'A')
		if kind.Both(a, b) != all {
			t.Errorf("%q and its other are not all bytes", small)
		}
		if kind.Not(a) != b || kind.Not(b) != a {
			t.Errorf("%q and its other are not apart", small)
		}
	}
}

func TestWrongClasses(t *testing.T) {
	known := 0
	for i := range 256 {
		class := byte(i)
		_, small := spansOfClass()[class]
		_, great := spansOfClass()[class-'A'+'a']
		if small || great && class < 'a' {
			known++
			continue
		}
		if kind.Known(class) {
			t.Errorf("Known(%q): true", class)
		}
		if s, ok := kind.Of(class); ok || s != (api.Set{}) {
			t.Errorf("Of(%q): %v, %t", class, s, ok)
		}
		for c := range 256 {
			if kind.Is(class, byte(c)) {
				t.Errorf("Is(%q, %#02x): true", class, c)
			}
		}
	}
	if known != 18 {
		t.Errorf("%d classes", known)
	}
}

func TestEachNameOverAllBytes(t *testing.T) {
	if len(spansOfName()) != 10 {
		t.Errorf("%d names", len(spansOfName()))
	}
	for name, l := range spansOfName() {
		s, ok := kind.Named(name)
		if !ok || s != setOf(l) {
			t.Errorf("Named(%q): %x, %t", name, s, ok)
		}
		for c := range 256 {
			if kind.Has(s, byte(c)) != within(l, byte(c)) {
				t.Errorf("Named(%q): wrong for %#02x", name, c)
			}
		}
	}
}

func checkNoName(t *testing.T, name string) {
	t.Helper()
	if _, is := spansOfName()[name]; is {
		return
	}
	if s, ok := kind.Named(name); ok || s != (api.Set{}) {
		t.Errorf("Named(%q): %x, %t", name, s, ok)
	}
}

func TestWrongNames(t *testing.T) {
	for _, name := range []string{
		"", " ", "d", "w", "digits", "word", "print", "graph", "ascii", "return", "tab", "escape",
		"Alpha", "DIGIT", "xDigit", "[:alpha:]", ":alpha:", "alpha\x00", "\x00alpha", "alphadigit", "\xff\xfe",
	} {
		checkNoName(t, name)
	}
}

// Each name with a byte taken away, put in, or put in another's place: names are known by all their bytes.
func TestNamesThatAreNearlyOnes(t *testing.T) {
	for name := range spansOfName() {
		for i := range len(name) + 1 {
			for c := range 256 {
				checkNoName(t, name[:i]+string([]byte{byte(c)})+name[i:])
				if i < len(name) {
					checkNoName(t, name[:i]+string([]byte{byte(c)})+name[i+1:])
				}
			}
			if i < len(name) {
				checkNoName(t, name[:i]+name[i+1:])
			}
		}
	}
}

func TestSmallAndGreat(t *testing.T) {
	for i := range 256 {
		c, small, great := byte(i), byte(i), byte(i)
		if 0x41 <= i && i <= 0x5a {
			small = byte(i + 0x20)
		}
		if 0x61 <= i && i <= 0x7a {
			great = byte(i - 0x20)
		}
		if kind.Small(c) != small {
			t.Errorf("Small(%#02x): %#02x", c, kind.Small(c))
		}
		if kind.Great(c) != great {
			t.Errorf("Great(%#02x): %#02x", c, kind.Great(c))
		}
	}
}

// sameLetter says of two bytes whether they are one letter, small and great.
func sameLetter(a, b byte) bool {
	const letters = "abcdefghijklmnopqrstuvwxyz"
	const greatOnes = "ABCDEFGHIJKLMNOPQRSTUVWXYZ"
	for i := range len(letters) {
		if a == letters[i] && b == greatOnes[i] || a == greatOnes[i] && b == letters[i] {
			return true
		}
	}
	return false
}

func TestSameOfAllPairs(t *testing.T) {
	for i := range 256 {
		for j := range 256 {
			a, b := byte(i), byte(j)
			if kind.Same(a, b, false) != (a == b) {
				t.Errorf("Same(%#02x, %#02x, false)", a, b)
			}
			if kind.Same(a, b, true) != (a == b || sameLetter(a, b)) {
				t.Errorf("Same(%#02x, %#02x, true)", a, b)
			}
		}
	}
}

func TestExamples(t *testing.T) {
	if !kind.Is('w', '_') {
		t.Error("Is('w', '_')")
	}
	if kind.Is('W', '_') {
		t.Error("Is('W', '_')")
	}
	if kind.Known('z') {
		t.Error("Known('z')")
	}
	if kind.Small('Q') != 'q' {
		t.Error("Small('Q')")
	}
	if !kind.Same('a', 'A', true) {
		t.Error("Same('a', 'A', true)")
	}
}
