package peer_test

import (
	"slices"
	"strings"

	"davit/peer"
)

// device is a device of strings, which can't share memory that changes.
type device struct {
	state     int
	part, log string
	lines     []string
}

// deviceOf returns a copy of a device.
func deviceOf(p peer.Peer) device {
	d := device{state: p.State, part: string(p.Part), log: string(p.Log)}
	for _, line := range p.Lines {
		d.lines = append(d.lines, string(line))
	}
	return d
}

// peerOf returns a copy of a device, in new memory.
func peerOf(d device) peer.Peer {
	return peer.Peer{State: d.state, Part: []byte(d.part), Log: []byte(d.log), Lines: texts(d.lines...)}
}

func texts(l ...string) [][]byte {
	var all [][]byte
	for _, s := range l {
		all = append(all, []byte(s))
	}
	return all
}

// same reports whether a device has these fields; a nil list is as good as an empty one.
func same(p peer.Peer, d device) bool {
	other := deviceOf(p)
	return other.state == d.state && other.part == d.part && other.log == d.log && slices.Equal(other.lines, d.lines)
}

// slowFeed is Feed by the chapter's words: it cuts the bytes behind each 10 and each 21, and takes the pieces one after the other.
func slowFeed(rules []peer.Rule, p peer.Peer, b []byte) device {
	d := deviceOf(p)
	for s := string(b); s != ""; {
		size := strings.IndexAny(s, "\n\x15")
		if size < 0 {
			d.part = continued(d.part, s)
			break
		}
		d.part = continued(d.part, s[:size])
		if s[size] == 10 {
			d.lines = append(d.lines, d.part)
			out, next := slowAnswer(rules, d.state, d.part)
			d.log += out
			d.state = next
		}
		d.part = ""
		s = s[size+1:]
	}
	return d
}

// continued returns the beginning of a line with as many of the bytes behind it as are not lost.
func continued(part, s string) string {
	room := max(300-len(part), 0)
	return part + s[:min(room, len(s))]
}

// slowAnswer returns what a device outputs for a line, and its state then. It goes from the last rule to the first one, so that the first one remains.
func slowAnswer(rules []peer.Rule, state int, line string) (string, int) {
	out, next := "", state
	for _, r := range slices.Backward(rules) {
		if r.State == state && string(r.Line) == line {
			out, next = string(r.Out), r.Next
		}
	}
	return out, next
}
