package kind

import "emendator/api"

// Has says whether a byte is in a set; With is a set with one more, Not what is not in it, Both what is in one of two.
func Has(s api.Set, c byte) bool {
	// Only a byte that is there already leaves the set as it was.
	return With(s, c) == s
}

func With(s api.Set, c byte) api.Set {
	// An array that is handed in is a copy: the caller's own stays as it is (here, in Not and in Both).
	s[c/64] |= 1 << (c % 64)
	return s
}

func Not(s api.Set) api.Set {
	for i := range s {
		s[i] = ^s[i]
	}
	return s
}

func Both(a, b api.Set) api.Set {
	for i := range a {
		a[i] |= b[i]
	}
	return a
}

// gather asks with an int: a byte would come round to 0 and never get past 255.
func gather(has func(byte) bool) api.Set {
	var s api.Set
	for i := range 256 {
		if c := byte(i); has(c) {
			s = With(s, c)
		}
	}
	return s
}
