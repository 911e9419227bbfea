package pat

import (
	"strings"

	"emendator/api"
	"emendator/kind"
)

// A mode is told by the bytes that are signs in it as they stand.
const (
	veryMagic   = "^$.*[~+=?{()|<>" // all that there are
	magic       = "^$.*[~"
	noMagic     = "^$"
	veryNoMagic = ""
)

// What a token is.
const (
	tokenEnd    uint8 = iota // the end of the pattern
	tokenByte                // the byte c itself
	tokenSign                // the sign c
	tokenLetter              // the letter or digit c, behind a backslash
)

// token is what is written at one place of a pattern.
type token struct {
	is uint8
	c  byte
	at int // where it begins: its backslash, if it has one
}

func (t token) isSign(c byte) bool { return t.is == tokenSign && t.c == c }

// endsBranch says whether no piece of the branch comes any more.
func (t token) endsBranch() bool {
	return t.is == tokenEnd || t.isSign('|') || t.isSign(')')
}

// scanner goes through a pattern token by token; a copy of it looks ahead.
type scanner struct {
	s      string
	at     int
	mode   string
	casing uint8 // one of api's cases
}

// next passes over what is no piece: so a sign sees what stands ahead of it and behind it as if that were not there.
func (x *scanner) next() token {
	for {
		t := x.token()
		if t.is != tokenLetter || !x.obey(t.c) {
			return t
		}
	}
}

func (x scanner) peek() token { return x.next() }

// obey does what a letter says of mode or case; false: it says nothing of these.
func (x *scanner) obey(letter byte) bool {
	switch letter {
	case 'v':
		x.mode = veryMagic
	case 'm':
		x.mode = magic
	case 'M':
		x.mode = noMagic
	case 'V':
		x.mode = veryNoMagic
	case 'c':
		x.casing = api.CaseIgnore
	case 'C':
		x.casing = api.CaseMatch
	default:
		return false
	}
	return true
}

func (x *scanner) token() token {
	at := x.at
	c, ok := x.take()
	switch {
	case !ok:
		return token{is: tokenEnd, at: at}
	case c == '\\':
		return x.escaped(at)
	case among(c, x.mode):
		return token{tokenSign, c, at}
	}
	return token{tokenByte, c, at}
}

// escaped reads on behind the backslash at that place.
func (x *scanner) escaped(at int) token {
	c, ok := x.take()
	switch {
	case !ok:
		panic(fault{api.ErrPatForm, at})
	case among(c, x.mode):
		return token{tokenByte, c, at}
	case among(c, veryMagic):
		return token{tokenSign, c, at}
	case kind.Is('a', c) || kind.Is('d', c):
		return token{tokenLetter, c, at}
	}
	return token{tokenByte, c, at}
}

// take is the next byte, whatever it means; false: there is none.
func (x *scanner) take() (byte, bool) {
	if x.at == len(x.s) {
		return 0, false
	}
	x.at++
	return x.s[x.at-1], true
}

// skip passes over a text, if it comes next.
func (x *scanner) skip(text string) bool {
	if !strings.HasPrefix(x.s[x.at:], text) {
		return false
	}
	x.at += len(text)
	return true
}

func among(c byte, all string) bool { return strings.IndexByte(all, c) >= 0 }
