package regex

// escapedSpans returns the spans of the bytes for which \c stands outside of sets; none if there is no such escape. They are new each time, as no two ops may share their spans.
func escapedSpans(c byte) []Span {
	switch c {
	case 'd':
		return []Span{{'0', '9'}}
	case 'w':
		return []Span{{'0', '9'}, {'A', 'Z'}, {'_', '_'}, {'a', 'z'}}
	case 's':
		return []Span{{9, 13}, {32, 32}}
	}
	b, ok := escapedByte(c)
	if !ok {
		return nil
	}
	return []Span{{b, b}}
}

// escapedByte returns the byte for which \c stands, in a set or outside of it; false if it does not stand for one byte.
func escapedByte(c byte) (byte, bool) {
	switch c {
	case 'n':
		return lineFeed, true
	case 't':
		return 9, true
	case 'r':
		return 13, true
	}
	if isLetterOrDigit(c) {
		return 0, false
	}
	return c, true
}

func isLetterOrDigit(c byte) bool {
	return c >= '0' && c <= '9' || c >= 'A' && c <= 'Z' || c >= 'a' && c <= 'z'
}

// standsAloneInSet reports whether c may stand in a set, as a byte of an item, without a \ ahead of it.
func standsAloneInSet(c byte) bool {
	switch c {
	case ']', '\\', '-', '^':
		return false
	}
	return true
}
