// Package kind is layer 1: see shared/doc/01-kind.md.
package kind

import "emendator/api"

// Known says whether there is such a class of bytes.
func Known(class byte) bool {
	_, ok := classOf(class)
	return ok
}

// Is says whether a byte is of a class.
func Is(class, c byte) bool {
	g, ok := classOf(class)
	return ok && g.has(c)
}

// Of is a class as a set, Named is one by its name; false: there is none.
func Of(class byte) (api.Set, bool) {
	g, ok := classOf(class)
	if !ok {
		return api.Set{}, false
	}
	return gather(g.has), true
}

func Named(name string) (api.Set, bool) {
	g, ok := namedGroup(name)
	if !ok {
		return api.Set{}, false
	}
	return gather(g.has), true
}

// Small and Great are letters as small ones, as great ones.
func Small(c byte) byte {
	if char(c).isGreat() {
		return c - 'A' + 'a'
	}
	return c
}

func Great(c byte) byte {
	if char(c).isSmall() {
		return c - 'a' + 'A'
	}
	return c
}

// Same says whether bytes are the same, or (fold) the same letter.
func Same(a, b byte, fold bool) bool {
	return a == b || fold && Small(a) == Small(b)
}
