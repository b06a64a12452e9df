package link

import (
	"bytes"
	"slices"

	"davit/peer"
)

// device is a peer with the rules according to which it acts. The memory of both is its own.
type device struct {
	peer.Peer
	rules []peer.Rule
}

func (d *device) receive(b []byte) {
	// Feed copies the device that it is given; what has piled up in Log and Lines does not matter to what follows, so it isn't given.
	after := peer.Feed(d.rules, peer.Peer{State: d.State, Part: d.Part}, b)
	after.Log = append(d.Log, after.Log...)
	after.Lines = append(d.Lines, after.Lines...)
	d.Peer = after
}

// shown returns a copy of the peer, in new memory.
func (d *device) shown() peer.Peer {
	return peer.Feed(nil, d.Peer, nil)
}

// copied returns rules whose lists are new memory.
func copied(rules []peer.Rule) []peer.Rule {
	own := slices.Clone(rules)
	for i := range own {
		own[i].Line, own[i].Out = bytes.Clone(own[i].Line), bytes.Clone(own[i].Out)
	}
	return own
}
