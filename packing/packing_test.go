package packing

import (
	"errors"
	"math/rand"
	"strings"
	"testing"

	"press/flow"
)

func noise(n int) string {
	r := rand.New(rand.NewSource(int64(n)))
	b := make([]byte, n)
	for i := range b {
		b[i] = byte(r.Intn(256))
	}
	return string(b)
}

func TestLengthCodesBothWays(t *testing.T) {
	for n := shortest; n <= longest; n++ {
		code, more, width := lengthCode(n)
		start, w := lengthStart(code)
		if start+more != n || w != width || more < 0 || more >= 1<<width || code < firstLengthCode || code > longestCode {
			t.Errorf("%d: code %d, %d in %d bits; read from %d with %d bits", n, code, more, width, start, w)
		}
	}
}

func TestDistanceCodesBothWays(t *testing.T) {
	for d := 1; d <= farthest; d++ {
		code, more, width := distanceCode(d)
		start, w := distanceStart(code)
		if start+more != d || w != width || more < 0 || more >= 1<<width || code < 0 || code > lastDistanceCode {
			t.Errorf("%d: code %d, %d in %d bits; read from %d with %d bits", d, code, more, width, start, w)
		}
	}
}

// counted counts the calls, and takes only so many bytes.
type counted struct {
	room  int
	calls int
	got   string
}

var errFull = errors.New("full")

func (c *counted) Write(s string) error {
	c.calls++
	if len(s) > c.room {
		return errFull
	}
	c.room -= len(s)
	c.got += s
	return nil
}

// Packed bytes go on while more come in; and no more than a few of what came
// in are kept.
func TestPackerHandsOnAsItGoes(t *testing.T) {
	st := flow.NewSink(-1)
	p := NewPacker(st)
	for range 100 {
		if err := p.Write(noise(30000)); err != nil {
			t.Fatal(err)
		}
		if waiting := len(p.window) - p.at; waiting >= enough {
			t.Fatalf("%d bytes wait", waiting)
		}
		if len(p.window) > 4*farthest || cap(p.window) > 8*farthest || len(p.bits.full) > 0 {
			t.Fatalf("%d bytes are kept, and %d packed ones", len(p.window), len(p.bits.full))
		}
	}
	if len(st.String()) < 20000 {
		t.Errorf("%d bytes were handed on", len(st.String()))
	}
}

func TestPackerOfOneLongPieceKeepsFew(t *testing.T) {
	p := NewPacker(flow.NewSink(-1))
	p.Write(noise(5 << 20))
	if len(p.window) > 4*farthest || cap(p.window) > 8*farthest {
		t.Errorf("%d bytes are kept", len(p.window))
	}
}

func TestPackerTellsWhenNotAllIsTaken(t *testing.T) {
	c := &counted{room: 1000}
	p := NewPacker(c)
	if err := p.Write(noise(500)); err != nil {
		t.Fatal(err)
	}
	calls := c.calls
	if err := p.Write(noise(1 << 20)); !errors.Is(err, errFull) {
		t.Errorf("Write answers %v", err)
	}
	if c.calls != calls+1 {
		t.Errorf("after the refusal %d more were sent", c.calls-calls-1)
	}
	c = &counted{room: 5}
	p = NewPacker(c)
	p.Write("a")
	if err := p.Close(); !errors.Is(err, errFull) {
		t.Errorf("Close answers %v", err)
	}
}

func TestPackingDoesNotHangOnTheSplit(t *testing.T) {
	all := noise(5000) + strings.Repeat("abcde", 3000) + noise(5000) + strings.Repeat("x", 70000) + noise(40000)
	want := Pack([]string{all})
	for _, n := range []int{1, 3, 100, 258, 261, 5000, 32768, 32769} {
		st := flow.NewSink(-1)
		p := NewPacker(st)
		for rest := all; rest != ""; rest = rest[min(n, len(rest)):] {
			p.Write(rest[:min(n, len(rest))])
		}
		p.Close()
		if st.String() != want {
			t.Errorf("pieces of %d bytes are packed otherwise", n)
		}
	}
}

func TestPackingGains(t *testing.T) {
	lines := strings.Repeat("BT /F1 12 Tf 1.5 -0.02 Td (some words) Tj ET\n0.5 w 10 20 m 30 40 l S\n", 200)
	if s := Pack([]string{lines}); len(s) > len(lines)/20 {
		t.Errorf("%d bytes are packed as %d", len(lines), len(s))
	}
}

func TestUnpackMost(t *testing.T) {
	s := Pack([]string{"abcabcabcabc"})
	if got, took, ok := Unpack(s, 12); got != "abcabcabcabc" || took != len(s) || !ok {
		t.Errorf("%q, %d, %v", got, took, ok)
	}
	for most := range 12 {
		if got, took, ok := Unpack(s, most); got != "" || took != 0 || ok {
			t.Errorf("at most %d: %q, %d, %v", most, got, took, ok)
		}
	}
}
