package addr

import "emendator/api"

// nothing is the kind of an address of which nothing is written.
const nothing uint8 = 0

// reader reads addresses at a place.
type reader struct{ place }

// addresses are all that come, one behind the other.
func (r *reader) addresses() ([]api.Addr, api.Errno) {
	r.while(isAhead)
	if _, is := r.oneOf("%"); is {
		r.while(isBlank)
		return []api.Addr{{Kind: api.AdLine, N: 1}, {Kind: api.AdEnd}}, api.OK
	}
	var all []api.Addr
	for {
		a, e := r.address()
		if e != api.OK {
			return nil, e
		}
		r.while(isBlank)
		sign, more := r.oneOf(",;")
		r.while(isBlank)
		if a.Kind == nothing && !more && len(all) == 0 {
			return nil, api.OK
		}
		if a.Kind == nothing {
			a.Kind = api.AdDot
		}
		a.Semi = sign == ';'
		all = append(all, a)
		if !more {
			return all, api.OK
		}
	}
}

// address is the one that comes, with its offset.
func (r *reader) address() (api.Addr, api.Errno) {
	a, e := r.plain()
	if e != api.OK {
		return api.Addr{}, e
	}
	from := r.at
	a.Off, e = r.offset()
	if a.Kind == nothing && r.at > from {
		a.Kind = api.AdDot
	}
	return a, e
}

// plain is the address that comes, without its offset.
func (r *reader) plain() (api.Addr, api.Errno) {
	n, is, e := r.number()
	if e != api.OK {
		return api.Addr{}, e
	}
	if is {
		return api.Addr{Kind: api.AdLine, N: n}, api.OK
	}
	switch sign, _ := r.oneOf(".$'/?"); sign {
	case '.':
		return api.Addr{Kind: api.AdDot}, api.OK
	case '$':
		return api.Addr{Kind: api.AdEnd}, api.OK
	case '\'':
		return r.mark()
	case '/':
		return api.Addr{Kind: api.AdFore, Pat: r.upTo(sign)}, api.OK
	case '?':
		return api.Addr{Kind: api.AdBack, Pat: r.upTo(sign)}, api.OK
	}
	return api.Addr{}, api.OK
}

// mark is the address of the mark whose name comes: any byte may be one here.
func (r *reader) mark() (api.Addr, api.Errno) {
	name, is := r.next()
	if !is {
		return api.Addr{}, api.ErrAddr
	}
	return api.Addr{Kind: api.AdMark, C: name}, api.OK
}

// offset is all offsets that come, together.
func (r *reader) offset() (int, api.Errno) {
	off := 0
	for {
		sign, is := r.oneOf("+-")
		if !is {
			return off, api.OK
		}
		n, said, e := r.number()
		if e != api.OK {
			return 0, e
		}
		if !said {
			n = 1
		}
		if sign == '-' {
			n = -n
		}
		off += n
	}
}
