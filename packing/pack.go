package packing

import "press/flow"

const (
	// As many bytes must be alike ahead of looking for more: fewer that come
	// again from far away gain next to nothing.
	keyLength = 4
	keyWidth  = 12
	// With so many bytes at hand no choice hangs on how the bytes came in.
	enough = longest + keyLength - 1
)

// Packer is a flow.Writer that hands on, packed, what it is given.
type Packer struct {
	next flow.Writer
	bits bitWriter
	sum  sum
	// The bytes that may come again, and from at on those that wait.
	window []byte
	at     int
	// How many bytes there were ahead of the window.
	gone int
	// For each key one more than where such bytes last were.
	seen []int
}

// NewPacker makes a packer that writes to next.
func NewPacker(next flow.Writer) *Packer {
	p := &Packer{next: next, sum: newSum(), seen: make([]int, 1<<keyWidth)}
	p.bits.put(headFirst, 8)
	p.bits.put(headSecond, 8)
	// Codes may go on for ever, so that one block, the last, serves for all.
	p.bits.put(1, 1)
	p.bits.put(kindCoded, 2)
	return p
}

// Write packs some bytes more. Some may wait for what follows.
func (p *Packer) Write(s string) error {
	for len(s) > 0 {
		n := min(len(s), farthest)
		p.sum.add(s[:n])
		p.window = append(p.window, s[:n]...)
		s = s[n:]
		for len(p.window)-p.at >= enough {
			p.step()
		}
		p.forget()
		if err := p.bits.send(p.next); err != nil {
			return err
		}
	}
	return nil
}

// Close packs what waits, and ends the packed bytes.
func (p *Packer) Close() error {
	for p.at < len(p.window) {
		p.step()
	}
	p.putSymbol(endCode)
	p.bits.fill()
	total := p.sum.value()
	for shift := 24; shift >= 0; shift -= 8 {
		p.bits.put(int(total>>shift&0xff), 8)
	}
	return p.bits.send(p.next)
}

// step packs the next byte, or all the next bytes that come again.
func (p *Packer) step() {
	length, distance := p.find()
	if length == 0 {
		p.putSymbol(int(p.window[p.at]))
		p.pass(1)
		return
	}
	code, more, width := lengthCode(length)
	p.putSymbol(code)
	p.bits.put(more, width)
	code, more, width = distanceCode(distance)
	p.bits.putHighFirst(code, distanceCodeWidth)
	p.bits.put(more, width)
	p.pass(length)
}

func (p *Packer) putSymbol(code int) {
	value, width := symbolBits(code)
	p.bits.putHighFirst(value, width)
}

// find tells how many of the next bytes come again, and from how far before;
// 0, if too few do.
func (p *Packer) find() (int, int) {
	most := min(longest, len(p.window)-p.at)
	if most < keyLength {
		return 0, 0
	}
	before := p.seen[p.key(p.at)] - 1
	distance := p.gone + p.at - before
	if before < 0 || distance > farthest {
		return 0, 0
	}
	length := 0
	for length < most && p.window[p.at+length-distance] == p.window[p.at+length] {
		length++
	}
	if length < keyLength {
		return 0, 0
	}
	return length, distance
}

// pass goes on by n bytes and keeps in mind where they were.
func (p *Packer) pass(n int) {
	for ; n > 0; n-- {
		if len(p.window)-p.at >= keyLength {
			p.seen[p.key(p.at)] = p.gone + p.at + 1
		}
		p.at++
	}
}

// key is a number that bytes which are alike share.
func (p *Packer) key(i int) int {
	w := p.window[i : i+keyLength]
	four := uint32(w[0]) | uint32(w[1])<<8 | uint32(w[2])<<16 | uint32(w[3])<<24
	return int(four * 2654435761 >> (32 - keyWidth))
}

// forget drops the bytes that are too far away to come again. It waits till
// there are many, so that moving the rest costs little.
func (p *Packer) forget() {
	extra := p.at - farthest
	if extra < farthest {
		return
	}
	rest := copy(p.window, p.window[extra:])
	p.window = p.window[:rest]
	p.at -= extra
	p.gone += extra
}

// Pack packs the pieces, one behind the other.
func Pack(pieces []string) string {
	sink := flow.NewSink(-1)
	p := NewPacker(sink)
	// Such a sink takes all, so that no error can come of these.
	for _, piece := range pieces {
		p.Write(piece)
	}
	p.Close()
	return sink.String()
}
