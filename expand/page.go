package expand

import "emendator/kind"

// letters is how bytes are laid: the next one, and all behind it. Nothing is said of the next one where both are the same.
type letters struct {
	next func(byte) byte
	all  func(byte) byte
}

func asItIs(c byte) byte { return c }

func alike(f func(byte) byte) letters { return letters{next: f, all: f} }

// say takes what a case says of the bytes that are still to come.
func (w *letters) say(c byte) {
	switch c {
	case 'u':
		w.next = kind.Great
	case 'l':
		w.next = kind.Small
	case 'U':
		*w = alike(kind.Great)
	case 'L':
		*w = alike(kind.Small)
	default:
		*w = alike(asItIs)
	}
}

// write is a byte as it is laid; what was said of the next one is used up by it, be it a letter or not.
func (w *letters) write(c byte) byte {
	laid := w.next(c)
	w.next = w.all
	return laid
}

// page holds the lines that are done, and the bytes of the one that is being laid.
type page struct {
	letters letters
	lines   []string
	open    []byte
}

func (p *page) lay(s string) {
	for i := range len(s) {
		p.open = append(p.open, p.letters.write(s[i]))
	}
}

func (p *page) endLine() {
	p.lines = append(p.lines, string(p.open))
	p.open = p.open[:0]
}
