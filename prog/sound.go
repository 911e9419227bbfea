package prog

import "emendator/api"

// checker holds the numbers of instructions against those of their program.
type checker struct {
	places int
	rounds int
}

func (c checker) sizes() bool {
	return c.places >= 1 && c.places <= api.MaxProg && c.rounds >= 0 && c.rounds <= api.MaxProg
}

func (c checker) all(code []api.Inst) bool {
	for _, i := range code {
		if !c.fits(i) {
			return false
		}
	}
	return true
}

// fits says whether an instruction has what its Op asks for.
func (c checker) fits(i api.Inst) bool {
	switch i.Op {
	case api.InByte, api.InAny, api.InSet, api.InBol, api.InEol, api.InBow, api.InEow, api.InMatch:
		return true
	case api.InSplit:
		return below(i.X, c.places) && below(i.Y, c.places)
	case api.InJump:
		return below(i.X, c.places)
	case api.InSave:
		return below(i.X, api.Slots)
	case api.InBack:
		return below(i.X, api.MaxGroups+1)
	case api.InStart, api.InGone:
		return below(i.X, c.rounds)
	}
	return false
}

func below(n, bound int) bool { return n >= 0 && n < bound }

// ends says whether nothing goes on behind the last instruction; there is one.
func ends(code []api.Inst) bool {
	last := code[len(code)-1].Op
	return last == api.InMatch || last == api.InJump
}
