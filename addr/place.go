package addr

import (
	"strconv"
	"strings"

	"emendator/api"
	"emendator/kind"
)

// mostDigits is how many digits a number has at most, so that no sum of those in a text is beyond an int.
const mostDigits = 9

// place is a place in a text. What is read there is passed over.
type place struct {
	s  string
	at int
}

// next is the byte that comes; false: none does.
func (p *place) next() (byte, bool) {
	if p.at == len(p.s) {
		return 0, false
	}
	p.at++
	return p.s[p.at-1], true
}

// oneOf is the byte that comes, if it is one of these; else it stays.
func (p *place) oneOf(these string) (byte, bool) {
	if p.at == len(p.s) || strings.IndexByte(these, p.s[p.at]) < 0 {
		return 0, false
	}
	return p.next()
}

// while are the bytes that come, up to one that is not such.
func (p *place) while(such func(byte) bool) string {
	from := p.at
	for p.at < len(p.s) && such(p.s[p.at]) {
		p.at++
	}
	return p.s[from:p.at]
}

// number is the number that comes; false: none does.
func (p *place) number() (int, bool, api.Errno) {
	digits := p.while(isDigit)
	if digits == "" {
		return 0, false, api.OK
	}
	if len(digits) > mostDigits {
		return 0, false, api.ErrAddr
	}
	n, _ := strconv.Atoi(digits) // which is never refused, as they are few digits
	return n, true, api.OK
}

// upTo is what comes up to a sign, which is passed over, too.
func (p *place) upTo(sign byte) string {
	var text []byte
	for {
		c, is := p.next()
		switch {
		case !is:
			return string(text)
		case c == '\\': // asked for first: one that is the sign itself ends nothing
			text = append(text, p.escaped(sign)...)
		case c == sign:
			return string(text)
		default:
			text = append(text, c)
		}
	}
}

// escaped is what a backslash and the byte behind it stand for. Of all bytes but the sign the backslash is kept: what it says of them is for others to read.
func (p *place) escaped(sign byte) string {
	c, is := p.next()
	switch {
	case !is:
		return `\`
	case c == sign:
		return string([]byte{sign})
	}
	return string([]byte{'\\', c})
}

func isDigit(c byte) bool { return kind.Is('d', c) }

func isBlank(c byte) bool { return kind.Is('s', c) }

// isAhead says of which bytes any may stand ahead of all addresses.
func isAhead(c byte) bool { return isBlank(c) || c == ':' }
