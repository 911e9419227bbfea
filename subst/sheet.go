package subst

import "emendator/api"

// sheet holds the lines that a line becomes: those that are done, and the bytes of the last one. A line never becomes shorter, so what would make one too long is not kept: all that is needed of it then is that it was.
type sheet struct {
	done []string
	open []byte
	long bool
}

func (s *sheet) lay(text string) {
	if len(s.open)+len(text) > api.MaxLine {
		s.long = true
		return
	}
	s.open = append(s.open, text...)
}

func (s *sheet) endLine() {
	s.done = append(s.done, string(s.open))
	s.open = s.open[:0]
}

func (s *sheet) tooMany() bool { return len(s.done) >= api.MaxLines }

// lines are all of them; behind that nothing can be laid any more.
func (s *sheet) lines() []string {
	s.endLine()
	return s.done
}
