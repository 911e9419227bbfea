package prog

import (
	"slices"

	"emendator/api"
)

// tooLong is what the writer panics with when there is no room for one more instruction: so none of its functions has to hand that on, and what would be far too long is given up early.
type tooLong struct{}

// writer lays the code of a sound pattern's nodes, one instruction behind the other.
type writer struct {
	nodes  []api.Node
	code   []api.Inst
	rounds int // that have begun
}

// write lays all of a program.
func (w *writer) write(root int) (errno api.Errno) {
	defer func() {
		switch recover().(type) {
		case nil:
		case tooLong:
			errno = api.ErrPatBig
		default:
			// A slip of the program's own is told by an error: no call may panic.
			errno = api.ErrArg
		}
	}()
	w.codeOf(root)
	w.lay(api.Inst{Op: api.InMatch})
	return api.OK
}

// lay is the place of a new instruction.
func (w *writer) lay(i api.Inst) int {
	if len(w.code) == api.MaxProg {
		panic(tooLong{})
	}
	w.code = append(w.code, i)
	return len(w.code) - 1
}

// here is the place of the next instruction.
func (w *writer) here() int { return len(w.code) }

// split lays an InSplit that goes on behind itself, or elsewhere (lazy: rather elsewhere). What it answers is called where that is.
func (w *writer) split(lazy bool) func() {
	at := w.lay(api.Inst{Op: api.InSplit})
	return func() {
		first, second := at+1, w.here()
		if lazy {
			first, second = second, first
		}
		w.code[at].X, w.code[at].Y = first, second
	}
}

// jump lays an InJump. What it answers is called where that goes.
func (w *writer) jump() func() {
	at := w.lay(api.Inst{Op: api.InJump})
	return func() { w.code[at].X = w.here() }
}

// codeOf lays a node's code. OpCats have no instruction of their own, so nothing bounds how many of them stand within each other: their kids wait in a list, the next one last. Other nodes lay their kids' code by calls within calls: each of them (of an OpMany: it or its kid) lays an instruction ahead of that, so these levels end at the program's bound.
func (w *writer) codeOf(at int) {
	for waiting := []int{at}; len(waiting) > 0; {
		next := w.nodes[waiting[len(waiting)-1]]
		waiting = waiting[:len(waiting)-1]
		if next.Op != api.OpCat {
			w.node(next)
			continue
		}
		for _, kid := range slices.Backward(next.Kids) {
			waiting = append(waiting, kid)
		}
	}
}

func (w *writer) node(n api.Node) {
	switch n.Op {
	case api.OpEmpty:
	case api.OpAlt:
		w.branches(n.Kids)
	case api.OpMany:
		w.many(n)
	case api.OpGroup:
		w.group(n)
	default:
		w.lay(leaf(n))
	}
}

// leaf is the instruction of a node that has no kids.
func leaf(n api.Node) api.Inst {
	switch n.Op {
	case api.OpByte:
		return api.Inst{Op: api.InByte, C: n.C}
	case api.OpSet:
		return api.Inst{Op: api.InSet, Set: n.Set}
	case api.OpBol:
		return api.Inst{Op: api.InBol}
	case api.OpEol:
		return api.Inst{Op: api.InEol}
	case api.OpBow:
		return api.Inst{Op: api.InBow}
	case api.OpEow:
		return api.Inst{Op: api.InEow}
	case api.OpZs:
		return api.Inst{Op: api.InSave, X: api.SlotZs}
	case api.OpZe:
		return api.Inst{Op: api.InSave, X: api.SlotZe}
	case api.OpBack:
		return api.Inst{Op: api.InBack, X: n.N}
	}
	return api.Inst{Op: api.InAny}
}

func (w *writer) branches(kids []int) {
	var leave []func()
	last := len(kids) - 1
	for _, kid := range kids[:last] {
		other := w.split(false)
		w.codeOf(kid)
		leave = append(leave, w.jump())
		other()
	}
	w.codeOf(kids[last])
	callAll(leave)
}

func (w *writer) group(n api.Node) {
	w.lay(api.Inst{Op: api.InSave, X: 2 * n.N})
	w.codeOf(n.Kids[0])
	w.lay(api.Inst{Op: api.InSave, X: 2*n.N + 1})
}

func (w *writer) many(n api.Node) {
	for range n.Min {
		w.codeOf(n.Kids[0])
	}
	if n.Max < 0 {
		w.loop(n)
		return
	}
	w.tries(n)
}

// loop is the kid of an OpMany any number of times.
func (w *writer) loop(n api.Node) {
	begin := w.here()
	leave := w.split(n.Lazy)
	w.round(n.Kids[0])
	w.lay(api.Inst{Op: api.InJump, X: begin})
	leave()
}

// tries are the kid of an OpMany as many times as it may still come, but need not.
func (w *writer) tries(n api.Node) {
	var leave []func()
	for range n.Max - n.Min {
		leave = append(leave, w.split(n.Lazy))
		w.round(n.Kids[0])
	}
	callAll(leave)
}

// round is a node's code as a round of its own. Its number is taken ahead of that code, so that rounds within it have greater ones.
func (w *writer) round(at int) {
	r := w.rounds
	w.rounds++
	w.lay(api.Inst{Op: api.InStart, X: r})
	w.codeOf(at)
	w.lay(api.Inst{Op: api.InGone, X: r})
}

func callAll(all []func()) {
	for _, call := range all {
		call()
	}
}
