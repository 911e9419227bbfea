package buf

import "emendator/api"

// way leads to another state: the changes on it, or why there is none.
type way func() ([]api.Delta, api.Errno)

// said is a way that is told by a number.
func said(lead func(int) ([]api.Delta, api.Errno), n int) way {
	return func() ([]api.Delta, api.Errno) { return lead(n) }
}

// travel goes a way. Where nothing is open, nothing goes back: marks that were set, and where one stands, are no change.
func (b *Buf) travel(lead way) api.Errno {
	if len(b.open) > 0 {
		b.Back()
	}
	l, e := lead()
	if e != api.OK {
		return e
	}
	for _, d := range l {
		b.text.lay(d)
		b.text.follow(d)
	}
	if n := len(l); n > 0 {
		b.Put(l[n-1].At + 1)
	}
	b.keep()
	return api.OK
}
