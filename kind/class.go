package kind

// group is the bytes for which a test holds, or (other) does not: so a class and its other have one test, and cannot come to overlap.
type group struct {
	is    func(char) bool
	other bool
}

func (g group) has(c byte) bool { return g.is(char(c)) != g.other }

func classOf(letter byte) (group, bool) {
	small := Small(letter)
	is := classTest(small)
	if is == nil {
		return group{}, false
	}
	return group{is: is, other: small != letter}, true
}

func namedGroup(name string) (group, bool) {
	is := nameTest(name)
	return group{is: is}, is != nil
}

// classTest is nil where there is no class of that small letter.
func classTest(small byte) func(char) bool {
	switch small {
	case 'd':
		return char.isDigit
	case 'x':
		return char.isHex
	case 'o':
		return char.isOctal
	case 'w':
		return char.isWord
	case 'h':
		return char.isHead
	case 'a':
		return char.isLetter
	case 'l':
		return char.isSmall
	case 'u':
		return char.isGreat
	case 's':
		return char.isBlank
	}
	return nil
}

// nameTest is nil where there is no such name.
func nameTest(name string) func(char) bool {
	switch name {
	case "alpha":
		return char.isLetter
	case "digit":
		return char.isDigit
	case "alnum":
		return char.isLetterOrDigit
	case "lower":
		return char.isSmall
	case "upper":
		return char.isGreat
	case "blank":
		return char.isBlank
	case "space":
		return char.isSpace
	case "xdigit":
		return char.isHex
	case "cntrl":
		return char.isControl
	case "punct":
		return char.isPunct
	}
	return nil
}
