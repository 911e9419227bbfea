package cmd

import (
	"strconv"
	"strings"

	"emendator/addr"
	"emendator/api"
)

// mostDigits is how many digits a number has at most, so that it is never beyond an int.
const mostDigits = 9

// noCount is the number of a command of which none is said.
const noCount = -1

// reader reads a command at a place.
type reader struct {
	place
	api.Cmd
}

// read is all of it: the range, the name and what follows that.
func (r *reader) read() api.Errno {
	var e api.Errno
	r.Range, e = r.addresses()
	if e != api.OK {
		return e
	}
	if r.rest() == "" {
		return api.OK
	}
	c, is := r.word()
	if !is {
		return api.ErrCmd
	}
	r.Name = c.name
	if c.bold {
		_, r.Bang = r.one(isBold)
	}
	if e := c.follows(r); e != api.OK {
		return e
	}
	r.blanks()
	if r.rest() != "" {
		return api.ErrTrail
	}
	return api.OK
}

// addresses are those that come.
func (r *reader) addresses() ([]api.Addr, api.Errno) {
	l, n, e := addr.Parse(r.rest())
	r.at += n
	return l, e
}

// word is the longest one that comes and is a name; false: none is.
func (r *reader) word() (command, bool) {
	all := commands()
	rest := r.rest()
	for n := min(len(rest), longest); n > 0; n-- {
		if c, is := all[rest[:n]]; is {
			r.at += n
			return c, true
		}
	}
	return command{}, false
}

func (r *reader) nothing() api.Errno { return api.OK }

// number is the number that comes, if one does.
func (r *reader) number() api.Errno {
	r.blanks()
	digits := r.run(isDigit)
	if digits == "" {
		return api.OK
	}
	if len(digits) > mostDigits {
		return api.ErrTrail
	}
	r.Count, _ = strconv.Atoi(digits) // which is never refused, as they are few digits
	return api.OK
}

// register is the register that comes, if one does.
func (r *reader) register() api.Errno {
	r.blanks()
	r.Reg, _ = r.one(isRegister)
	return api.OK
}

func (r *reader) registerAndNumber() api.Errno {
	r.register() // which is never refused
	return r.number()
}

// mark is the name of a mark, which must come: any byte may be one here.
func (r *reader) mark() api.Errno {
	r.blanks()
	var is bool
	r.Reg, is = r.one(isAny)
	if !is {
		return api.ErrTrail
	}
	return api.OK
}

// destination is where lines are to go: behind a single one.
func (r *reader) destination() api.Errno {
	l, e := r.addresses()
	if e != api.OK {
		return e
	}
	if len(l) != 1 {
		return api.ErrAddr
	}
	r.Dest = l
	return api.OK
}

// shift is how far lines go: as often as the sign stands there.
func (r *reader) shift() api.Errno {
	r.Arg = r.Name + r.run(func(c byte) bool { return c == r.Name[0] })
	return r.number()
}

func (r *reader) sign() (byte, bool) {
	r.blanks()
	return r.one(isSign)
}

// substitution is a new one, if a sign comes; else the last one is done again.
func (r *reader) substitution() api.Errno {
	if sign, is := r.sign(); is {
		r.Pat = r.upTo(sign)
		r.Rep = r.upTo(sign)
		r.Arg = "="
	}
	return r.again()
}

// again is how a substitution is done.
func (r *reader) again() api.Errno {
	r.blanks()
	r.Flags = strings.Clone(r.run(isFlag))
	return r.number()
}

// visits is in which lines something is done, and what.
func (r *reader) visits() api.Errno {
	sign, is := r.sign()
	if !is {
		return api.ErrCmd
	}
	r.Pat = r.upTo(sign)
	r.Arg = r.all()
	if r.Arg == "" {
		r.Arg = "p"
	}
	return api.OK
}

// keys are all bytes that are left, blanks, too, but one that parts them from the name.
func (r *reader) keys() api.Errno {
	r.one(isBlank)
	r.Arg = r.all()
	if r.Arg == "" {
		return api.ErrTrail
	}
	return api.OK
}
