package press_test

import (
	"bytes"
	"compress/zlib"
	"encoding/binary"
	"hash/adler32"
	"io"
	"math/rand"
	"strings"
	"testing"

	"press/api"
	"press/press"
)

// What packed bytes are is written down here a second time, from the document
// alone and as plainly as can be, to hold the program against.

const head = "\x78\x01"

// someBytes are n bytes from a set, none of which comes in any order.
func someBytes(seed int64, n int, set string) string {
	r := rand.New(rand.NewSource(seed))
	b := make([]byte, n)
	for i := range b {
		b[i] = set[r.Intn(len(set))]
	}
	return string(b)
}

// byteRange are the bytes from..to.
func byteRange(from int, to int) string {
	var b []byte
	for c := from; c <= to; c++ {
		b = append(b, byte(c))
	}
	return string(b)
}

func sumOf(s string) string {
	return string(binary.BigEndian.AppendUint32(nil, adler32.Checksum([]byte(s))))
}

// starts are where the codes of lengths or distances begin: first codes without
// more bits, and then groups of some codes with 1, 2, .. more bits.
func starts(least int, first int, group int, widest int) (begin []int, more []int) {
	at := least
	for range first {
		begin, more = append(begin, at), append(more, 0)
		at++
	}
	for w := 1; w <= widest; w++ {
		for range group {
			begin, more = append(begin, at), append(more, w)
			at += 1 << w
		}
	}
	return begin, more
}

func lengthStarts() ([]int, []int) {
	begin, more := starts(3, 8, 4, 5)
	return append(begin, 258), append(more, 0)
}

func distanceStarts() ([]int, []int) { return starts(1, 4, 2, 13) }

// codeBits are the bits of a code, written as they stand, of the kind 1.
func codeBits(code int) string {
	switch {
	case code < 144:
		return highBits(48+code, 8)
	case code < 256:
		return highBits(400+code-144, 9)
	case code < 280:
		return highBits(code-256, 7)
	}
	return highBits(192+code-280, 8)
}

func highBits(v int, n int) string {
	s := ""
	for i := n - 1; i >= 0; i-- {
		s += string('0' + rune(v>>i&1))
	}
	return s
}

func lowBits(v int, n int) string {
	s := ""
	for i := range n {
		s += string('0' + rune(v>>i&1))
	}
	return s
}

// maker makes blocks bit by bit.
type maker struct{ bits strings.Builder }

func (m *maker) put(bits ...string) *maker {
	for _, b := range bits {
		m.bits.WriteString(b)
	}
	return m
}

func (m *maker) begin(last int, kind int) *maker { return m.put(lowBits(last, 1), lowBits(kind, 2)) }

func (m *maker) text(s string) *maker {
	for i := range len(s) {
		m.put(codeBits(int(s[i])))
	}
	return m
}

// again puts codes as they are, with more bits as they are.
func (m *maker) again(code int, more int, distance int, far int) *maker {
	_, lengthMore := lengthStarts()
	_, distanceMore := distanceStarts()
	m.put(codeBits(code))
	if code <= 285 {
		m.put(lowBits(more, lengthMore[code-257]))
	}
	m.put(highBits(distance, 5))
	if distance <= 29 {
		m.put(lowBits(far, distanceMore[distance]))
	}
	return m
}

// copyOf puts a length and a distance.
func (m *maker) copyOf(n int, d int) *maker {
	lengths, _ := lengthStarts()
	distances, _ := distanceStarts()
	l, k := 28, 29
	for n < lengths[l] {
		l--
	}
	for d < distances[k] {
		k--
	}
	return m.again(257+l, n-lengths[l], k, d-distances[k])
}

func (m *maker) end() *maker { return m.put(codeBits(256)) }

func (m *maker) fill(bit string) *maker {
	for m.bits.Len()%8 != 0 {
		m.put(bit)
	}
	return m
}

func (m *maker) plain(last int, s string) *maker {
	m.begin(last, 0).fill("0").put(lowBits(len(s), 16), lowBits(65535-len(s), 16))
	for i := range len(s) {
		m.put(lowBits(int(s[i]), 8))
	}
	return m
}

func (m *maker) bytes() string {
	m.fill("0")
	bits := m.bits.String()
	b := make([]byte, len(bits)/8)
	for i := range bits {
		b[i/8] |= (bits[i] - '0') << (i % 8)
	}
	return string(b)
}

// packed are the blocks with all around them, for what they should give.
func (m *maker) packed(want string) string { return head + m.bytes() + sumOf(want) }

// slow reads bits one by one.
type slow struct {
	s  string
	at int
}

func (r *slow) bit() int {
	if r.at/8 >= len(r.s) {
		panic("cut")
	}
	v := int(r.s[r.at/8]) >> (r.at % 8) & 1
	r.at++
	return v
}

func (r *slow) low(n int) int {
	v := 0
	for i := range n {
		v |= r.bit() << i
	}
	return v
}

func (r *slow) code(table map[string]int) int {
	bits := ""
	for {
		bits += lowBits(r.bit(), 1)
		if c, ok := table[bits]; ok {
			return c
		}
		if len(bits) > 9 {
			panic("no code")
		}
	}
}

func (r *slow) align() {
	for r.at%8 != 0 {
		if r.bit() != 0 {
			panic("a bit is set")
		}
	}
}

func codeTable() map[string]int {
	t := map[string]int{}
	for c := range 288 {
		t[codeBits(c)] = c
	}
	return t
}

// slowBlocks tells what the blocks at the beginning of s give, and where they end.
func slowBlocks(s string, table map[string]int) (out string, end int, ok bool) {
	defer func() {
		if recover() != nil {
			out, end, ok = "", 0, false
		}
	}()
	r := &slow{s: s}
	var b []byte
	for last := 0; last == 0; {
		last = r.bit()
		switch r.low(2) {
		case 0:
			r.align()
			n := r.low(16)
			if r.low(16) != 65535-n {
				panic("not the rest")
			}
			for range n {
				b = append(b, byte(r.low(8)))
			}
		case 1:
			b = slowCodes(r, b, table)
		default:
			panic("no kind")
		}
	}
	r.align()
	return string(b), r.at / 8, true
}

func slowCodes(r *slow, b []byte, table map[string]int) []byte {
	lengths, lengthMore := lengthStarts()
	distances, distanceMore := distanceStarts()
	for {
		c := r.code(table)
		if c == 256 {
			return b
		}
		if c < 256 {
			b = append(b, byte(c))
			continue
		}
		n := lengths[c-257] + r.low(lengthMore[c-257])
		if c == 284 && n == 258 {
			panic("284 for 258")
		}
		k := 0
		for range 5 {
			k = 2*k + r.bit()
		}
		d := distances[k] + r.low(distanceMore[k])
		for range n {
			b = append(b, b[len(b)-d])
		}
	}
}

// wantUnpacked asks for what s gives, with and without bytes behind.
func wantUnpacked(t *testing.T, name string, s string, want string) {
	t.Helper()
	for _, behind := range []string{"", "\x00", "\xff\xff", s} {
		got, n, e := press.Unpack(s + behind)
		if got != want || n != len(s) || e != api.OK {
			t.Errorf("P4: %s, %d bytes behind: %d bytes, took %d, %d; want %d bytes, took %d", name, len(behind), len(got), n, e, len(want), len(s))
		}
	}
}

func wantRefused(t *testing.T, name string, s string) {
	t.Helper()
	if got, n, e := press.Unpack(s); got != "" || n != 0 || e != api.ErrBytes {
		t.Errorf("P4: %s: %d bytes, took %d, %d; want ErrBytes", name, len(got), n, e)
	}
}

// wantPacked asks Go's library and Unpack what Pack has made.
func wantPacked(t *testing.T, name string, pieces []string) string {
	t.Helper()
	all := strings.Join(pieces, "")
	s := press.Pack(pieces)
	b := bytes.NewReader([]byte(s + "behind"))
	z, err := zlib.NewReader(b)
	if err != nil {
		t.Errorf("P3: %s: %v", name, err)
		return s
	}
	if got, err := io.ReadAll(z); err != nil || string(got) != all || b.Len() != len("behind") {
		t.Errorf("P3: %s: the library reads %d of %d bytes, %d are left behind, %v", name, len(got), len(all), b.Len(), err)
	}
	if len(all) <= api.MaxBytes {
		wantUnpacked(t, name, s, all)
	} else {
		wantRefused(t, name, s)
	}
	if 5*(len(s)-30) > 6*len(all) {
		t.Errorf("P3: %s: %d bytes are packed as %d", name, len(all), len(s))
	}
	return s
}
