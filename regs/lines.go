package regs

import (
	"slices"

	"emendator/api"
)

// own is the same in memory of its own; no lines become one empty one here, so that whatever is kept has a first line and a last one.
func own(x api.Reg) api.Reg {
	if len(x.Lines) == 0 {
		return api.Reg{Lines: []string{""}}
	}
	return api.Reg{Lines: slices.Clone(x.Lines), Whole: x.Whole}
}

// added is what is in a register (no lines: nothing), with x behind it.
func added(was, x api.Reg) api.Reg {
	switch last := len(was.Lines) - 1; {
	case last < 0:
		return x
	case was.Whole || x.Whole:
		return api.Reg{Lines: slices.Concat(was.Lines, x.Lines), Whole: true}
	default:
		seam := was.Lines[last] + x.Lines[0]
		return api.Reg{Lines: slices.Concat(was.Lines[:last], []string{seam}, x.Lines[1:])}
	}
}

// fits says whether there is room for x in a register. It counts down, so that no line is too long to be counted.
func fits(x api.Reg) bool {
	room := api.MaxReg
	for _, line := range x.Lines {
		if len(line) >= room {
			return false
		}
		room -= len(line) + 1
	}
	return true
}
