package addr

import (
	"emendator/api"
	"emendator/buf"
	"emendator/find"
	"emendator/tree"
)

// wording is what patterns are read with: the one that was last, what ~ stands for in one, and whether small and great letters are the same.
type wording struct {
	last  string
	tilde string
	fold  bool
}

// program is a pattern's, which is the last one then.
func (w *wording) program(s string) (api.Prog, api.Errno) {
	p, last, e := Compile(s, w.last, w.tilde, w.fold)
	if e == api.OK {
		w.last = last
	}
	return p, e
}

// walk goes from address to address in a text, which it looks at only.
type walk struct {
	*buf.Buf
	wording
	here  int
	lines *tree.Tree // those of the text, once one is looked for among them
}

func newWalk(b *buf.Buf, w wording) *walk {
	return &walk{Buf: b, wording: w, here: b.Cursor()}
}

// ends are the lines of the last two addresses; of a single one the same line twice, of none that in which one stands.
func (w *walk) ends(l []api.Addr) (int, int, api.Errno) {
	from, to := w.here, w.here
	for i, a := range l {
		n, e := w.reach(a)
		if e != api.OK {
			return 0, 0, e
		}
		from, to = to, n
		if i == 0 {
			from = n
		}
	}
	if from > to {
		return 0, 0, api.ErrRange
	}
	return from, to, api.OK
}

// reach is an address's line, to which one goes, if the address says so: to line 1, if it is line 0, in which nobody can stand.
func (w *walk) reach(a api.Addr) (int, api.Errno) {
	tell := teller(a.Kind)
	n, e := tell(w, a)
	if e != api.OK {
		return 0, e
	}
	n += a.Off
	if n < 0 || n > w.Len() {
		return 0, api.ErrRange
	}
	if a.Semi {
		w.here = max(n, 1)
	}
	return n, api.OK
}

// teller is what tells the line of an address of a kind, its offset apart.
func teller(kind uint8) func(*walk, api.Addr) (int, api.Errno) {
	switch kind {
	case api.AdLine:
		return (*walk).numbered
	case api.AdDot:
		return (*walk).same
	case api.AdEnd:
		return (*walk).end
	case api.AdMark:
		return (*walk).marked
	case api.AdFore:
		return (*walk).behind
	case api.AdBack:
		return (*walk).ahead
	}
	return (*walk).nowhere
}

func (w *walk) numbered(a api.Addr) (int, api.Errno) { return a.N, api.OK }

func (w *walk) same(api.Addr) (int, api.Errno) { return w.here, api.OK }

func (w *walk) end(api.Addr) (int, api.Errno) { return w.Len(), api.OK }

func (w *walk) marked(a api.Addr) (int, api.Errno) { return w.Marks().Get(a.C) }

func (w *walk) behind(a api.Addr) (int, api.Errno) { return w.next(a.Pat, false) }

func (w *walk) ahead(a api.Addr) (int, api.Errno) { return w.next(a.Pat, true) }

// nowhere is of an address of no kind: there is no line of it that could be in the text.
func (w *walk) nowhere(api.Addr) (int, api.Errno) { return 0, api.ErrRange }

// next is the line in which a pattern fits that comes first from here on, or back.
func (w *walk) next(s string, back bool) (int, api.Errno) {
	p, e := w.program(s)
	if e != api.OK {
		return 0, e
	}
	if w.lines == nil {
		w.lines = tree.New(w.Lines())
	}
	return find.Next(w.lines, p, w.here, back)
}
