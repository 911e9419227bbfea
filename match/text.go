package match

import (
	"emendator/api"
	"emendator/kind"
)

// text is the line, and whether small and great letters of it are the same.
type text struct {
	line string
	fold bool
}

// fits says whether there is a byte at a place, and it is one for which the instruction asks.
func (t text) fits(i api.Inst, at int) bool {
	if at == len(t.line) {
		return false
	}
	switch i.Op {
	case api.InByte:
		return kind.Same(t.line[at], i.C, t.fold)
	case api.InSet:
		return t.isOf(i.Set, t.line[at])
	}
	return true
}

func (t text) isOf(s api.Set, c byte) bool {
	return kind.Has(s, c) || t.fold && (kind.Has(s, kind.Small(c)) || kind.Has(s, kind.Great(c)))
}

// isWord says whether there is a byte of a word at a place; ahead of the line and behind it there is none.
func (t text) isWord(at int) bool {
	return at >= 0 && at < len(t.line) && kind.Is('w', t.line[at])
}

// repeats says whether the bytes from one place to another come at a third one, too.
func (t text) repeats(from, to, at int) bool {
	if to-from > len(t.line)-at {
		return false
	}
	for i := range to - from {
		if !kind.Same(t.line[from+i], t.line[at+i], t.fold) {
			return false
		}
	}
	return true
}
