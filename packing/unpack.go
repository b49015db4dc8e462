package packing

// Unpack gives back what stands packed at the beginning of s, and how many
// bytes of s that takes; false, if nothing does, or it is more than most bytes.
func Unpack(s string, most int) (string, int, bool) {
	if !hasHead(s) {
		return "", 0, false
	}
	u := &unpacker{in: bitReader{s: s, at: headLength}, most: most}
	if !u.blocks() || !u.in.align() {
		return "", 0, false
	}
	all := string(u.out)
	if !u.sumIsOf(all) {
		return "", 0, false
	}
	return all, u.in.at, true
}

func hasHead(s string) bool {
	if len(s) < headLength || s[0] != headFirst {
		return false
	}
	return (headFirst*256+int(s[1]))%31 == 0 && s[1]&(1<<5) == 0
}

type unpacker struct {
	in   bitReader
	out  []byte
	most int
}

func (u *unpacker) blocks() bool {
	for {
		last, ok := u.in.take(1)
		if !ok || !u.block() {
			return false
		}
		if last == 1 {
			return true
		}
	}
}

func (u *unpacker) block() bool {
	kind, ok := u.in.take(2)
	if !ok {
		return false
	}
	switch kind {
	case kindPlain:
		return u.plain()
	case kindCoded:
		return u.coded()
	}
	return false
}

// plain reads bytes that stand as they are.
func (u *unpacker) plain() bool {
	if !u.in.align() {
		return false
	}
	n, _ := u.in.take(16)
	rest, ok := u.in.take(16)
	if !ok || rest != 65535-n || !u.hasRoom(n) {
		return false
	}
	s, ok := u.in.takeBytes(n)
	u.out = append(u.out, s...)
	return ok
}

// coded reads codes up to the one that ends them.
func (u *unpacker) coded() bool {
	for {
		code, ok := u.symbol()
		switch {
		case !ok:
			return false
		case code == endCode:
			return true
		case code > endCode:
			if !u.again(code) {
				return false
			}
		case !u.hasRoom(1):
			return false
		default:
			u.out = append(u.out, byte(code))
		}
	}
}

// symbol reads a code: seven bits tell it, or that there are one or two more.
func (u *unpacker) symbol() (int, bool) {
	v, ok := u.in.takeHighFirst(7)
	if !ok {
		return 0, false
	}
	if v < 0b0011000 {
		return 256 + v, true
	}
	bit, ok := u.in.take(1)
	v = v<<1 | bit
	if v < 0b11000000 {
		return v - 0b00110000, ok
	}
	if v < 0b11001000 {
		return 280 + v - 0b11000000, ok
	}
	bit, ok = u.in.take(1)
	v = v<<1 | bit
	return 144 + v - 0b110010000, ok
}

// again reads from how far before bytes come again, and lets them come.
func (u *unpacker) again(code int) bool {
	n, ok := u.length(code)
	if !ok || !u.hasRoom(n) {
		return false
	}
	d, ok := u.distance()
	if !ok || d > len(u.out) {
		return false
	}
	// One by one: they may reach into themselves.
	for range n {
		u.out = append(u.out, u.out[len(u.out)-d])
	}
	return true
}

func (u *unpacker) length(code int) (int, bool) {
	if code > longestCode {
		return 0, false
	}
	start, width := lengthStart(code)
	more, ok := u.in.take(width)
	n := start + more
	// The longest has a code of its own.
	return n, ok && (n < longest || code == longestCode)
}

func (u *unpacker) distance() (int, bool) {
	code, ok := u.in.takeHighFirst(distanceCodeWidth)
	if !ok || code > lastDistanceCode {
		return 0, false
	}
	start, width := distanceStart(code)
	more, ok := u.in.take(width)
	return start + more, ok
}

func (u *unpacker) hasRoom(n int) bool { return n <= u.most-len(u.out) }

// sumIsOf tells whether the sum that comes next is that of s.
func (u *unpacker) sumIsOf(s string) bool {
	given, ok := u.in.takeBytes(sumLength)
	if !ok {
		return false
	}
	right := newSum()
	right.add(s)
	v := right.value()
	return given == string([]byte{byte(v >> 24), byte(v >> 16), byte(v >> 8), byte(v)})
}
