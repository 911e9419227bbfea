package pat

import (
	"emendator/api"
	"emendator/kind"
)

// fault is what is wrong with a pattern, and where. The reader panics with it: so none of its functions has to hand it on.
type fault struct {
	errno api.Errno
	at    int
}

// reader makes nodes of tokens.
type reader struct {
	scanner
	builder
	last   string // what ~ stands for
	groups int    // that have begun
	closed [api.MaxGroups + 1]bool
}

func newReader(s, last string) *reader {
	return &reader{scanner: scanner{s: s, mode: magic}, last: last}
}

// read is all of the pattern, or the first fault.
func (r *reader) read() (p api.Pat, errno api.Errno, at int) {
	defer func() {
		switch wrong := recover().(type) {
		case nil:
		case fault:
			p, errno, at = api.Pat{}, wrong.errno, wrong.at
		default:
			// A slip of the program's own is told by an error that no pattern has: no call may panic.
			p, errno, at = api.Pat{}, api.ErrArg, 0
		}
	}()
	return r.pattern(), api.OK, 0
}

func (r *reader) pattern() api.Pat {
	root, end := r.branches()
	if end.is != tokenEnd {
		panic(fault{api.ErrPatGroup, end.at})
	}
	if len(r.nodes) > api.MaxNodes {
		panic(fault{api.ErrPatBig, 0})
	}
	return api.Pat{Nodes: r.nodes, Root: root, Groups: r.groups, Case: r.casing}
}

// branches reads up to a sign ) or the end, and tells which it is.
func (r *reader) branches() (int, token) {
	var kids []int
	for {
		kid, end := r.branch()
		kids = append(kids, kid)
		if !end.isSign('|') {
			return r.join(api.OpAlt, kids), end
		}
	}
}

func (r *reader) branch() (int, token) {
	var pieces []int
	for {
		t := r.next()
		if t.endsBranch() {
			return r.join(api.OpCat, pieces), t
		}
		if t.is == tokenSign && among(t.c, manySigns) {
			pieces = r.many(t, pieces)
			continue
		}
		pieces = append(pieces, r.piece(t, len(pieces) == 0))
	}
}

func (r *reader) piece(t token, first bool) int {
	switch t.is {
	case tokenSign:
		return r.sign(t, first)
	case tokenLetter:
		return r.letter(t)
	}
	return r.plain(t.c)
}

// sign is the piece that a sign makes, first in its branch or not; the byte itself, where it means nothing.
func (r *reader) sign(t token, first bool) int {
	switch t.c {
	case '^':
		if first {
			return r.bare(api.OpBol)
		}
	case '$':
		if r.peek().endsBranch() {
			return r.bare(api.OpEol)
		}
	case '.':
		return r.bare(api.OpAny)
	case '<':
		return r.bare(api.OpBow)
	case '>':
		return r.bare(api.OpEow)
	case '~':
		return r.again()
	case '[':
		if set, ok := r.collection(t); ok {
			return r.set(set)
		}
	case '(':
		return r.group(t)
	}
	return r.plain(t.c)
}

// again is what ~ stands for.
func (r *reader) again() int {
	if len(r.nodes) > api.MaxNodes {
		// That there are too many is told at the end, behind any other fault; till then no more of them are needed.
		return r.bare(api.OpEmpty)
	}
	var kids []int
	for i := range len(r.last) {
		kids = append(kids, r.plain(r.last[i]))
	}
	return r.join(api.OpCat, kids)
}

func (r *reader) group(t token) int {
	if r.groups == api.MaxGroups {
		panic(fault{api.ErrPatGroup, t.at})
	}
	r.groups++
	n := r.groups
	kid, end := r.branches()
	if end.is == tokenEnd {
		panic(fault{api.ErrPatGroup, t.at})
	}
	r.closed[n] = true
	return r.add(api.Node{Op: api.OpGroup, N: n, Kids: []int{kid}})
}

// letter is the piece that a letter or digit makes behind a backslash.
func (r *reader) letter(t token) int {
	switch t.c {
	case 'e', 't', 'r', 'b':
		return r.plain(control(t.c))
	case 'n':
		return r.set(api.Set{})
	case 'z':
		return r.edge(t)
	case '1', '2', '3', '4', '5', '6', '7', '8', '9':
		return r.back(t)
	}
	set, ok := kind.Of(t.c)
	if !ok {
		panic(fault{api.ErrPatForm, t.at})
	}
	return r.set(set)
}

// control is the byte for which a letter stands behind a backslash, in a collection as outside of it.
func control(letter byte) byte {
	switch letter {
	case 'e':
		return 0x1b
	case 't':
		return 0x09
	case 'r':
		return 0x0d
	case 'b':
		return 0x08
	}
	return letter
}

// edge is where the match is said to begin, or to end.
func (r *reader) edge(t token) int {
	switch {
	case r.skip("s"):
		return r.bare(api.OpZs)
	case r.skip("e"):
		return r.bare(api.OpZe)
	}
	panic(fault{api.ErrPatForm, t.at})
}

func (r *reader) back(t token) int {
	n := int(t.c - '0')
	if !r.closed[n] {
		panic(fault{api.ErrPatGroup, t.at})
	}
	return r.add(api.Node{Op: api.OpBack, N: n})
}
