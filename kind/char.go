package kind

// char is a byte with methods, so that a class is told by one of them.
type char byte

func (c char) between(first, last char) bool { return first <= c && c <= last }

func (c char) isDigit() bool { return c.between('0', '9') }

func (c char) isOctal() bool { return c.between('0', '7') }

func (c char) isHex() bool {
	return c.isDigit() || c.between('a', 'f') || c.between('A', 'F')
}

func (c char) isSmall() bool { return c.between('a', 'z') }

func (c char) isGreat() bool { return c.between('A', 'Z') }

func (c char) isLetter() bool { return c.isSmall() || c.isGreat() }

func (c char) isLetterOrDigit() bool { return c.isLetter() || c.isDigit() }

func (c char) isHead() bool { return c.isLetter() || c == '_' }

func (c char) isWord() bool { return c.isHead() || c.isDigit() }

func (c char) isBlank() bool { return c == ' ' || c == '\t' }

func (c char) isSpace() bool { return c == ' ' || c.between(0x09, 0x0d) }

func (c char) isControl() bool { return c < 0x20 || c == 0x7f }

func (c char) isPunct() bool {
	return c.between(0x21, 0x2f) || c.between(0x3a, 0x40) || c.between(0x5b, 0x60) || c.between(0x7b, 0x7e)
}
