// Package flow: how the parts of the program hand bytes on to one another.
package flow

import (
	"errors"
	"strings"
)

// ErrFull says that a sink has not taken all that was sent to it.
var ErrFull = errors.New("flow: the sink takes no more")

// ErrOther says that something else was sent than what should come.
var ErrOther = errors.New("flow: other bytes than those that should come")

// Writer takes the next bytes. An error says that it has not taken all of
// them; who gets one sends nothing more.
type Writer interface {
	Write(s string) error
}

// Sink is a Writer that keeps what it takes: limit bytes in all.
type Sink struct {
	limit int
	taken []byte
	full  bool
}

// NewSink makes a sink; a limit below 0: it takes any number of bytes.
func NewSink(limit int) *Sink { return &Sink{limit: limit} }

// Write takes what there is room for. A sink that once did not take all takes
// nothing more.
func (k *Sink) Write(s string) error {
	n := k.room(len(s))
	k.taken = append(k.taken, s[:n]...)
	k.full = k.full || n < len(s)
	if k.full {
		return ErrFull
	}
	return nil
}

// room tells how many of n bytes the sink takes.
func (k *Sink) room(n int) int {
	switch {
	case k.full:
		return 0
	case k.limit < 0:
		return n
	}
	return min(n, k.limit-len(k.taken))
}

// Full tells whether the sink once did not take all.
func (k *Sink) Full() bool { return k.full }

// String tells all that was taken.
func (k *Sink) String() string { return string(k.taken) }

// Counter is a Writer that counts what it hands on.
type Counter struct {
	next  Writer
	count int
}

// NewCounter makes a counter ahead of next; nil: it counts, and no more.
func NewCounter(next Writer) *Counter { return &Counter{next: next} }

// Write hands on.
func (c *Counter) Write(s string) error {
	c.count += len(s)
	if c.next == nil {
		return nil
	}
	return c.next.Write(s)
}

// Count tells how many bytes came so far.
func (c *Counter) Count() int { return c.count }

// Match is a Writer that takes one given text and nothing else: it tells
// whether what was read would be written so.
type Match struct {
	rest string
}

// NewMatch makes a match of s.
func NewMatch(s string) *Match { return &Match{rest: s} }

// Write takes s, if that is what should come next.
func (m *Match) Write(s string) error {
	rest, ok := strings.CutPrefix(m.rest, s)
	if !ok {
		return ErrOther
	}
	m.rest = rest
	return nil
}

// Rest is what should still come.
func (m *Match) Rest() string { return m.rest }
