package link

const (
	// discard lets a device forget an incomplete line.
	discard = 21
	// lineFeed completes a line.
	lineFeed = 10
)

// wire carries bytes to what receives them, as far as there is room.
type wire struct {
	receive func(b []byte)
	room    int
}

// carry hands on as many of the first bytes as there is room for, and reports whether these are all.
func (w wire) carry(b []byte) bool {
	part := b[:min(w.room, len(b))]
	w.receive(part)
	return len(part) == len(b)
}

// bytesOf returns the bytes of a line on the link: what was sent of another one ahead of it is discarded.
func bytesOf(line []byte) []byte {
	b := append([]byte{discard}, line...)
	return append(b, lineFeed)
}
