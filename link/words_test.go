package link_test

import (
	"bytes"
	"fmt"
	"slices"
	"testing"

	"davit/api"
	"davit/link"
	"davit/peer"
)

// device is a device of strings, which can't share memory that changes.
type device struct {
	state     int
	part, log string
	lines     []string
}

// deviceOf returns a copy of a device.
func deviceOf(p peer.Peer) device {
	d := device{state: p.State, part: string(p.Part), log: string(p.Log)}
	for _, line := range p.Lines {
		d.lines = append(d.lines, string(line))
	}
	return d
}

// same reports whether a device has these fields; a nil list is as good as an empty one.
func same(p peer.Peer, d device) bool {
	other := deviceOf(p)
	return other.state == d.state && other.part == d.part && other.log == d.log && slices.Equal(other.lines, d.lines)
}

// slowLink is a link by the chapter's words: it remembers all bytes that its device has ever received, and feeds them to a new device whenever it is asked.
type slowLink struct {
	rules    []peer.Rule
	received []byte
	position int
}

func slowNew(rules []peer.Rule) *slowLink {
	l := &slowLink{}
	for _, r := range rules {
		l.rules = append(l.rules, rule(r.State, string(r.Line), string(r.Out), r.Next))
	}
	return l
}

func (l *slowLink) peer() device {
	return deviceOf(peer.Feed(l.rules, peer.Peer{}, l.received))
}

func (l *slowLink) attach(offset int) api.Errno {
	for at := range len(l.peer().log) + 1 {
		if at == offset {
			l.position = at
			return api.OK
		}
	}
	return api.ErrArg
}

func (l *slowLink) send(line string, room int) bool {
	for _, b := range []byte("\x15" + line + "\n") {
		if room <= 0 {
			return false
		}
		l.received = append(l.received, b)
		room--
	}
	return true
}

func (l *slowLink) read(most int) string {
	log, next := l.peer().log, ""
	for ; most > 0 && l.position < len(log); most-- {
		next += log[l.position : l.position+1]
		l.position++
	}
	return next
}

// pair is a link and the second one, of which the same is asked.
type pair struct {
	t     *testing.T
	link  *link.Link
	slow  *slowLink
	calls []string
}

func newPair(t *testing.T, rules []peer.Rule) *pair {
	t.Helper()
	p := &pair{t: t, link: link.New(rules), slow: slowNew(rules), calls: []string{"New(" + told(rules) + ")"}}
	if p.link == nil {
		t.Fatalf("New(%s) returned nil", told(rules))
	}
	return p
}

// called remembers a call for messages, the last ones of many.
func (p *pair) called(form string, args ...any) {
	p.calls = append(p.calls, fmt.Sprintf(form, args...))
	if len(p.calls) > 40 {
		p.calls = slices.Delete(p.calls, 1, 20)
	}
}

// differs ends the test.
func (p *pair) differs(got, want any) {
	p.t.Helper()
	p.t.Fatalf("%s: %.600v, not %.600v", p.calls, got, want)
}

func (p *pair) attach(offset int) api.Errno {
	p.t.Helper()
	p.called("Attach(%d)", offset)
	got, want := p.link.Attach(offset), p.slow.attach(offset)
	if got != want {
		p.differs(got, want)
	}
	return got
}

// attaches checks that Attach returns this error.
func (p *pair) attaches(offset int, want api.Errno) {
	p.t.Helper()
	if got := p.attach(offset); got != want {
		p.differs(got, want)
	}
}

func (p *pair) send(line []byte, room int) bool {
	p.t.Helper()
	p.called("Send(%d: %.60q, %d)", len(line), line, room)
	got, want := p.link.Send(line, room), p.slow.send(string(line), room)
	if got != want {
		p.differs(got, want)
	}
	return got
}

// sends checks that Send returns this.
func (p *pair) sends(line string, room int, want bool) {
	p.t.Helper()
	if got := p.send([]byte(line), room); got != want {
		p.differs(got, want)
	}
}

func (p *pair) read(most int) []byte {
	p.t.Helper()
	p.called("Read(%d)", most)
	got, want := p.link.Read(most), p.slow.read(most)
	if string(got) != want {
		p.differs(fmt.Sprintf("%q", got), fmt.Sprintf("%q", want))
	}
	return got
}

// reads checks that Read returns these bytes.
func (p *pair) reads(most int, want string) {
	p.t.Helper()
	if got := p.read(most); string(got) != want {
		p.differs(fmt.Sprintf("%q", got), fmt.Sprintf("%q", want))
	}
}

func (p *pair) peer() peer.Peer {
	p.t.Helper()
	p.called("Peer()")
	got, want := p.link.Peer(), p.slow.peer()
	if !same(got, want) {
		p.differs(shown(deviceOf(got)), shown(want))
	}
	return got
}

// is checks that Peer returns this device.
func (p *pair) is(want device) {
	p.t.Helper()
	if got := p.peer(); !same(got, want) {
		p.differs(shown(deviceOf(got)), shown(want))
	}
}

// rest checks what is read from the position to the end of the Log, and that the position is then at the end.
func (p *pair) rest() {
	p.t.Helper()
	p.read(1 << 40)
	p.reads(1<<40, "")
}

// told tells of rules in a message.
func told(rules []peer.Rule) string {
	s := fmt.Sprintf("%d rules:", len(rules))
	for _, r := range rules[:min(len(rules), 30)] {
		s += fmt.Sprintf(" %d %.60q > %.60q %d;", r.State, r.Line, r.Out, r.Next)
	}
	return s
}

// shown tells of a device in a message.
func shown(d device) string {
	return fmt.Sprintf("(state %d, part of %d %.320q, log of %d %.200q, %d lines %.900q)", d.state, len(d.part), d.part, len(d.log), d.log, len(d.lines), d.lines[:min(len(d.lines), 12)])
}

func rule(state int, line, out string, next int) peer.Rule {
	return peer.Rule{State: state, Line: []byte(line), Out: []byte(out), Next: next}
}

// bytesOf returns the bytes of a line on a link.
func bytesOf(line []byte) []byte {
	return slices.Concat([]byte{21}, bytes.Clone(line), []byte{10})
}
