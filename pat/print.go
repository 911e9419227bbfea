package pat

import (
	"strconv"
	"strings"

	"emendator/api"
)

// printer writes a sound pattern. What is still to be written waits in a list, the next one last: a call within a call for each level would not bear as many levels as there may be.
type printer struct {
	api.Pat
	out     strings.Builder
	waiting []part
}

// part is a text and the node behind it.
type part struct {
	text string
	at   int
}

// noNode stands for a node, where there is none.
const noNode = -1

func (w *printer) print() string {
	w.wait(strconv.Itoa(w.Groups)+caseLetter(w.Case)+":", w.Root)
	for len(w.waiting) > 0 {
		next := w.waiting[len(w.waiting)-1]
		w.waiting = w.waiting[:len(w.waiting)-1]
		w.out.WriteString(next.text)
		if next.at != noNode {
			w.node(w.Nodes[next.at])
		}
	}
	return w.out.String()
}

func (w *printer) wait(text string, at int) {
	w.waiting = append(w.waiting, part{text, at})
}

func (w *printer) node(n api.Node) {
	switch n.Op {
	case api.OpCat:
		w.list("(", "", ")", n.Kids)
	case api.OpAlt:
		w.list("(", "|", ")", n.Kids)
	case api.OpMany:
		w.list(timesText(n), "", "", n.Kids)
	case api.OpGroup:
		w.list("<"+strconv.Itoa(n.N), "", ">", n.Kids)
	default:
		w.out.WriteString(leafText(n))
	}
}

// list has kids wait, of which there is at least one.
func (w *printer) list(ahead, between, behind string, kids []int) {
	w.wait(behind, noNode)
	for i := len(kids) - 1; i > 0; i-- {
		w.wait(between, kids[i])
	}
	w.wait(ahead, kids[0])
}

// caseLetter takes a case that has no name for CaseMatch, as the chapter of prog does.
func caseLetter(casing uint8) string {
	switch casing {
	case api.CaseAsked:
		return "a"
	case api.CaseIgnore:
		return "i"
	}
	return "m"
}

func timesText(n api.Node) string {
	ahead := "{"
	if n.Lazy {
		ahead = "{-"
	}
	return ahead + strconv.Itoa(n.Min) + "," + strconv.Itoa(n.Max) + "}"
}

// leafText is a node that has no kids.
func leafText(n api.Node) string {
	switch n.Op {
	case api.OpByte:
		return "b" + hex(uint64(n.C), 2)
	case api.OpAny:
		return "."
	case api.OpSet:
		return setText(n.Set)
	case api.OpBack:
		return `\` + strconv.Itoa(n.N)
	case api.OpBol:
		return "^"
	case api.OpEol:
		return "$"
	case api.OpBow:
		return "["
	case api.OpEow:
		return "]"
	case api.OpZs:
		return "!"
	case api.OpZe:
		return "?"
	}
	return "e"
}

func setText(s api.Set) string {
	text := "s"
	for _, element := range s {
		text += hex(element, 16)
	}
	return text
}

// hex is a number by that many digits at least.
func hex(n uint64, width int) string {
	digits := strconv.FormatUint(n, 16)
	return strings.Repeat("0", max(width-len(digits), 0)) + digits
}
