package edit

import (
	"strconv"
	"strings"

	"emendator/api"
	"emendator/buf"
	"emendator/regs"
)

// nameless is the register that is meant where none is said.
const nameless byte = '"'

// noCount is the number of a command for which none was said.
const noCount = -1

// work is a command that is done on a text: on the lines from one to another.
type work struct {
	*buf.Buf
	api.Cmd
	regs     *regs.Regs
	from, to int
	dest     int
	tells    []string
}

// way is how a command is done, and what it takes for its lines.
type way struct {
	do     func() api.Errno
	zero   bool // line 0, too, which is ahead of all
	counts bool // as many as a number says
}

// way tells it by the command's name. There is one for each: whatever has no name of these has its lines looked at first, too.
func (w *work) way() way {
	switch w.Name {
	case "":
		return way{do: w.stand, zero: true}
	case "p":
		return way{do: w.tell, counts: true}
	case "=":
		return way{do: w.number, zero: true}
	case "d":
		return way{do: w.cut, counts: true}
	case "y":
		return way{do: w.yank, counts: true}
	case "m":
		return way{do: w.move}
	case "t":
		return way{do: w.double}
	case "j":
		return way{do: w.join, counts: true}
	case "pu":
		return way{do: w.paste, zero: true}
	case "k":
		return way{do: w.mark}
	case ">", "<":
		return way{do: w.shift, counts: true}
	}
	return way{do: w.unknown}
}

// settle says which lines are meant, or that there are none such.
func (w *work) settle(as way) api.Errno {
	switch {
	case w.from < 0, w.to < w.from, w.Len() < w.to, w.from == 0 && !as.zero:
		return api.ErrRange
	case as.counts && w.Count != noCount:
		return w.counted()
	}
	return api.OK
}

// counted has the range begin where it ended; a number below 1 would turn it round. It adds no more than there is, so that no number is too great.
func (w *work) counted() api.Errno {
	if w.Count < 1 {
		return api.ErrRange
	}
	w.from = w.to
	w.to += min(w.Count-1, w.Len()-w.to)
	return api.OK
}

func (w *work) many() int { return w.to - w.from + 1 }

func (w *work) lines() []string {
	var all []string
	for n := w.from; n <= w.to; n++ {
		line, _ := w.Line(n)
		all = append(all, line)
	}
	return all
}

func (w *work) register() byte {
	if w.Reg == 0 {
		return nameless
	}
	return w.Reg
}

// exchange puts lines in the place of n from one on, and goes to a line then.
func (w *work) exchange(line, n int, lines []string, then int) api.Errno {
	if e := w.Splice(line, n, lines); e != api.OK {
		return e
	}
	w.Put(then)
	return api.OK
}

// lay puts lines behind one, and goes to the last of them. Splice refuses the lines behind which none can be.
func (w *work) lay(behind int, lines []string) api.Errno {
	return w.exchange(behind+1, 0, lines, behind+len(lines))
}

// keep has the lines in a register.
func (w *work) keep(as func(*regs.Regs, byte, api.Reg) api.Errno) api.Errno {
	return as(w.regs, w.register(), api.Reg{Lines: w.lines(), Whole: true})
}

func (w *work) stand() api.Errno {
	w.Put(w.to)
	return api.OK
}

func (w *work) tell() api.Errno {
	for _, line := range w.lines() {
		w.tells = append(w.tells, strings.Clone(line))
	}
	return w.stand()
}

func (w *work) number() api.Errno {
	w.tells = []string{strconv.Itoa(w.to)}
	return api.OK
}

// cut has the register take the lines first, as that alone can be refused.
func (w *work) cut() api.Errno {
	if e := w.keep((*regs.Regs).Cut); e != api.OK {
		return e
	}
	return w.exchange(w.from, w.many(), nil, w.from)
}

func (w *work) yank() api.Errno { return w.keep((*regs.Regs).Yank) }

func (w *work) move() api.Errno {
	if e := w.Move(w.from, w.to, w.dest); e != api.OK {
		return e
	}
	last := w.dest
	if w.dest < w.from {
		last += w.many()
	}
	w.Put(last)
	return api.OK
}

func (w *work) double() api.Errno { return w.lay(w.dest, w.lines()) }

func (w *work) join() api.Errno {
	if w.from == w.to {
		w.to++
	}
	if w.to > w.Len() {
		return api.ErrRange
	}
	return w.exchange(w.from, w.many(), []string{w.joined()}, w.from)
}

// joined are the lines as one; or, where that is too long anyhow, as many of them as tell it, lest long lines be copied over and over.
func (w *work) joined() string {
	one := ""
gather:
	for n, line := range w.lines() {
		switch {
		case n == 0:
			one = line
		case len(one) > api.MaxLine:
			break gather
		default:
			one = Join(one, line, w.Bang)
		}
	}
	return one
}

func (w *work) paste() api.Errno {
	x, e := w.regs.Get(w.register())
	if e != api.OK {
		return e
	}
	behind := w.to
	if w.Bang {
		behind = max(w.to-1, 0)
	}
	return w.lay(behind, x.Lines)
}

func (w *work) mark() api.Errno { return w.Marks().Set(w.Reg, w.to) }

func (w *work) shift() api.Errno {
	lines := w.lines()
	for n, line := range lines {
		lines[n] = Shift(line, len(w.Arg), w.Name == "<")
	}
	return w.exchange(w.from, w.many(), lines, w.to)
}

func (w *work) unknown() api.Errno { return api.ErrCmd }
