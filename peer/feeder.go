package peer

import "bytes"

const (
	// lineFeed completes a line.
	lineFeed = 10
	// discard empties an incomplete line.
	discard = 21
	// mostPart is the number of bytes of an incomplete line from which on further ones are lost.
	mostPart = 300
)

// feeder feeds bytes to the device in it, which acts according to the rules. The memory of the device is its own, and no two of its lists share any.
type feeder struct {
	Peer
	rules []Rule
}

func (f *feeder) receive(b byte) {
	switch {
	case b == lineFeed:
		f.complete()
	case b == discard:
		f.Part = nil
	case len(f.Part) < mostPart:
		f.Part = append(f.Part, b)
	}
}

func (f *feeder) complete() {
	line := f.Part
	f.Lines = append(f.Lines, line)
	// The line keeps the memory of Part, so the next one must not be written into it.
	f.Part = nil
	f.answer(line)
}

// answer acts according to the first rule for a line, if there is one.
func (f *feeder) answer(line []byte) {
	for _, r := range f.rules {
		if r.State == f.State && bytes.Equal(r.Line, line) {
			f.Log = append(f.Log, r.Out...)
			f.State = r.Next
			return
		}
	}
}

// copied returns a device whose lists are new memory.
func copied(p Peer) Peer {
	lines := make([][]byte, len(p.Lines))
	for i, line := range p.Lines {
		lines[i] = bytes.Clone(line)
	}
	p.Part, p.Log, p.Lines = bytes.Clone(p.Part), bytes.Clone(p.Log), lines
	return p
}
