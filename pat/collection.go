package pat

import (
	"strings"

	"emendator/api"
	"emendator/kind"
)

// items are those of a collection, read byte by byte: signs and modes mean nothing in it.
type items struct {
	scanner
	set   api.Set
	falls bool // the bytes of some range do
}

// collection reads on behind the sign [. False: no ] ends it, and nothing is read; not even a range that falls is wrong then.
func (r *reader) collection(t token) (api.Set, bool) {
	in := items{scanner: r.scanner}
	others := in.skip("^")
	if !in.read() {
		return api.Set{}, false
	}
	if in.falls {
		panic(fault{api.ErrPatForm, t.at})
	}
	r.scanner = in.scanner
	if others {
		return kind.Not(in.set), true
	}
	return in.set, true
}

// read takes all items, up to a ] that is not the first byte; false: there is none.
func (in *items) read() bool {
	for first := in.at; in.at < len(in.s); {
		if in.at > first && in.skip("]") {
			return true
		}
		if !in.named() {
			in.span()
		}
	}
	return false
}

// named takes a set by its name.
func (in *items) named() bool {
	rest, ok := strings.CutPrefix(in.s[in.at:], "[:")
	if !ok {
		return false
	}
	name, _, ok := strings.Cut(rest, ":]")
	if !ok {
		return false
	}
	set, ok := kind.Named(name)
	if !ok {
		return false
	}
	in.set = kind.Both(in.set, set)
	return in.skip("[:" + name + ":]")
}

// span takes a byte, or all from one to another.
func (in *items) span() {
	first := in.member()
	last := first
	if rest := in.s[in.at:]; len(rest) > 1 && rest[0] == '-' && rest[1] != ']' {
		in.skip("-")
		last = in.member()
	}
	if last < first {
		in.falls = true
	}
	// An int, as a byte would come round to 0 and never get past 255.
	for c := int(first); c <= int(last); c++ {
		in.set = kind.With(in.set, byte(c))
	}
}

// member takes a byte, as it stands or behind a backslash; there is one.
func (in *items) member() byte {
	c, _ := in.take()
	if c != '\\' || in.at == len(in.s) || !among(in.s[in.at], `etrbn\]^-`) {
		return c
	}
	c, _ = in.take()
	if c == 'n' {
		return 0x0a
	}
	return control(c)
}
