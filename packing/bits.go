package packing

import (
	"math/bits"

	"press/flow"
)

// bitWriter makes bytes of bits, the lowest of each byte first.
type bitWriter struct {
	full  []byte
	held  uint32
	count int
}

// put puts some bits, the lowest first.
func (w *bitWriter) put(value int, width int) {
	w.held |= uint32(value) << w.count
	w.count += width
	for w.count >= 8 {
		w.full = append(w.full, byte(w.held))
		w.held >>= 8
		w.count -= 8
	}
}

// putHighFirst puts some bits, the highest first.
func (w *bitWriter) putHighFirst(value int, width int) {
	w.put(highFirst(value, width), width)
}

// fill makes a whole byte of the bits that are left.
func (w *bitWriter) fill() {
	if w.count > 0 {
		w.put(0, 8-w.count)
	}
}

// send hands the whole bytes on.
func (w *bitWriter) send(next flow.Writer) error {
	if len(w.full) == 0 {
		return nil
	}
	s := string(w.full)
	w.full = w.full[:0]
	return next.Write(s)
}

// bitReader takes bits of s, the lowest of each byte first. It holds bits of
// one byte at most, so that at is never beyond what was asked for.
type bitReader struct {
	s     string
	at    int
	held  uint32
	count int
}

// take takes up to 16 bits, the lowest first; false, if s ends ahead of that.
func (r *bitReader) take(width int) (int, bool) {
	for r.count < width {
		if r.at >= len(r.s) {
			return 0, false
		}
		r.held |= uint32(r.s[r.at]) << r.count
		r.at++
		r.count += 8
	}
	value := r.held & (1<<width - 1)
	r.held >>= width
	r.count -= width
	return int(value), true
}

// takeHighFirst takes up to 16 bits, the highest first.
func (r *bitReader) takeHighFirst(width int) (int, bool) {
	value, ok := r.take(width)
	return highFirst(value, width), ok
}

// takeBytes takes whole bytes; no bits may be held.
func (r *bitReader) takeBytes(n int) (string, bool) {
	if len(r.s)-r.at < n {
		return "", false
	}
	r.at += n
	return r.s[r.at-n : r.at], true
}

// align goes on to the next whole byte; false, if a bit ahead of it is set.
func (r *bitReader) align() bool {
	zero := r.held == 0
	r.held, r.count = 0, 0
	return zero
}

func highFirst(value int, width int) int {
	return int(bits.Reverse16(uint16(value)) >> (16 - width))
}
