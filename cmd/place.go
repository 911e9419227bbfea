package cmd

import (
	"strings"
	"unicode/utf8"

	"emendator/addr"
	"emendator/kind"
)

// noSigns are the bytes that are no signs beside letters, digits and blanks: those that begin what else may follow, or end it.
const noSigns = "\"|\\&#!"

// flags are what a substitution may be told.
const flags = "&cegiIn"

// place is a place in a text. What is read there is passed over.
type place struct {
	s  string
	at int
}

// rest is what is left; it stays.
func (p *place) rest() string { return p.s[p.at:] }

// one is the byte that comes, if it is such; else it stays.
func (p *place) one(such func(byte) bool) (byte, bool) {
	if p.at == len(p.s) || !such(p.s[p.at]) {
		return 0, false
	}
	p.at++
	return p.s[p.at-1], true
}

// run are the bytes that come, up to one that is not such. No byte from 80 on is, in any run that is asked for: a text is gone through by runes, which are bytes below that alone.
func (p *place) run(such func(byte) bool) string {
	rest := p.rest()
	for n, c := range rest {
		if c >= utf8.RuneSelf || !such(byte(c)) {
			p.at += n
			return rest[:n]
		}
	}
	p.at = len(p.s)
	return rest
}

func (p *place) blanks() { p.run(isBlank) }

// upTo is what comes up to a sign, which is passed over, too.
func (p *place) upTo(sign byte) string {
	text, at := addr.Split(p.s, p.at, sign)
	p.at = at
	return text
}

// all is what is left, in memory of its own, for an answer shares none with what is handed in.
func (p *place) all() string {
	text := strings.Clone(p.rest())
	p.at = len(p.s)
	return text
}

func isAny(byte) bool { return true }

func isBlank(c byte) bool { return kind.Is('s', c) }

func isDigit(c byte) bool { return kind.Is('d', c) }

func isBold(c byte) bool { return c == '!' }

func isFlag(c byte) bool { return strings.IndexByte(flags, c) >= 0 }

// isRegister says what may be a register's name here; whether there is one of that name is for others to say.
func isRegister(c byte) bool { return !isDigit(c) }

// isSign says of a byte whether a pattern may stand between two of it.
func isSign(c byte) bool {
	return !kind.Is('a', c) && !isDigit(c) && !isBlank(c) && strings.IndexByte(noSigns, c) < 0
}
