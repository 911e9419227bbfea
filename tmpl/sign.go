package tmpl

import (
	"iter"

	"emendator/api"
)

// signs are the bytes of a replacement, each with whether a backslash stands ahead of it that belongs to it. A backslash at the end belongs to nothing, and so is a byte like others.
func signs(s string) iter.Seq2[byte, bool] {
	return func(yield func(byte, bool) bool) {
		for i := 0; i < len(s); i++ {
			escaped := s[i] == '\\' && i+1 < len(s)
			if escaped {
				i++
			}
			if !yield(s[i], escaped) {
				return
			}
		}
	}
}

// pieceOf is the piece that a sign is by itself; there is none, if it is a byte of the text.
func pieceOf(c byte, escaped bool) (api.Tm, bool) {
	switch {
	case !escaped && c == '&':
		return api.Tm{Kind: api.TmGroup, N: 0}, true
	case !escaped:
		return api.Tm{}, false
	case '0' <= c && c <= '9':
		return api.Tm{Kind: api.TmGroup, N: int(c - '0')}, true
	case c == 'r':
		return api.Tm{Kind: api.TmSplit}, true
	case c == 'u' || c == 'l' || c == 'U' || c == 'L':
		return api.Tm{Kind: api.TmCase, C: c}, true
	case c == 'e' || c == 'E':
		return api.Tm{Kind: api.TmCase, C: 'E'}, true
	}
	return api.Tm{}, false
}

// byteOf is the byte for which a sign stands that is no piece by itself.
func byteOf(c byte, escaped bool) byte {
	switch {
	case escaped && c == 'n':
		return 0
	case escaped && c == 't':
		return '\t'
	}
	return c
}
