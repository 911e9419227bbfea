package subst

import "emendator/api"

// replies are the answers that were given, and how many of them were used.
type replies struct {
	given []byte
	used  int
}

// next takes the next answer. Where none is left it is over without one: so none is used.
func (r *replies) next() byte {
	if r.used == len(r.given) {
		return api.AnsQuit
	}
	r.used++
	return r.given[r.used-1]
}

// yes is the answer where nobody is asked.
func yes() byte { return api.AnsYes }
