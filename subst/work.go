package subst

import (
	"emendator/api"
	"emendator/expand"
)

// none is where the match ahead ends, if there is none.
const none = -1

// work is what goes on while the matches of a line are replaced. No match begins ahead of start, nor start ahead of copied: so what is laid is never laid twice.
type work struct {
	sheet
	replies
	answer func() byte // whether the next match is replaced
	pieces []api.Tm
	line   string
	start  int // from where on the next match is looked for
	last   int // where the match ahead ends
	copied int // up to where the line is laid, or replaced
	many   int
	over   bool
	all    bool
}

// newWork is told by a pointer, as its answers are taken by a method of what it embeds.
func newWork(l []api.Tm, line string, ask bool, answers []byte) *work {
	w := &work{pieces: l, line: line, last: none, answer: yes}
	if ask {
		w.given = answers
		w.answer = w.next
	}
	return w
}

// visit goes on behind a match. An empty one at the end of the match ahead is passed over: between the two stands nothing.
func (w *work) visit(m api.Match) {
	empty := m.From == m.To
	if !empty || m.From != w.last {
		w.settle(m)
	}
	w.last = m.To
	w.start = m.To
	if empty {
		w.start++
	}
}

// settle does with a match what is answered.
func (w *work) settle(m api.Match) {
	switch w.answer() {
	case api.AnsYes:
		w.replace(m)
	case api.AnsNo:
	case api.AnsAll:
		w.replace(m)
		w.all = true
		w.answer = yes
	case api.AnsLast:
		w.replace(m)
		w.over = true
	default:
		w.over = true
	}
}

func (w *work) replace(m api.Match) {
	w.lay(w.line[w.copied:m.From])
	for n, text := range expand.Lines(w.pieces, w.line, m) {
		if n > 0 {
			w.endLine()
		}
		w.lay(text)
	}
	w.copied = m.To
	w.many++
}

func (w *work) change() api.Change {
	return api.Change{Lines: w.lines(), Many: w.many, Used: w.used, Over: w.over, All: w.all}
}
