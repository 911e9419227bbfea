package marks

// course says of a line where it goes; false: it is gone.
type course func(line int) (int, bool)

// follow takes each mark where its line goes. Names stay, or go: so none is new to the map while it is gone through.
func (m *Marks) follow(goes course) {
	for name, line := range m.lines {
		if to, there := goes(line); there {
			m.lines[name] = to
		} else {
			delete(m.lines, name)
		}
	}
}

// spliced is the course of lines, if some are put in the place of n from first on. It subtracts, as first and n together may be too great where an int has 32 bits.
func spliced(first, n, lines int) course {
	return func(line int) (int, bool) {
		switch ahead := line - first; {
		case ahead < 0:
			return line, true
		case ahead < n:
			return line, ahead < lines
		}
		return line + lines - n, true
	}
}

// exchanged is the course of lines, if those from first to middle and those behind them, up to last, change places. That is each Move: lines that go down change places with those that they pass, which go up.
func exchanged(first, middle, last int) course {
	return func(line int) (int, bool) {
		switch {
		case line < first || line > last:
			return line, true
		case line <= middle:
			return line + last - middle, true
		}
		return line - middle + first - 1, true
	}
}
