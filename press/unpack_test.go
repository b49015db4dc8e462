package press_test

import (
	"math/rand"
	"strconv"
	"strings"
	"testing"
	"unsafe"

	"press/api"
	"press/press"
)

func TestUnpackExamples(t *testing.T) {
	for _, s := range []string{
		"\x78\x01\x01\x01\x00\xfe\xff\x61\x00\x62\x00\x62",
		"\x78\x01\x4b\x04\x00\x00\x62\x00\x62",
		"\x78\x9c\x4b\x04\x00\x00\x62\x00\x62",
	} {
		wantUnpacked(t, "an example", s, "a")
	}
	wantRefused(t, "an example that is cut", "\x78\x01")
}

func TestUnpackHead(t *testing.T) {
	for a := range 256 {
		for b := range 256 {
			s := string([]byte{byte(a), byte(b)}) + "\x4b\x04\x00\x00\x62\x00\x62"
			name := "the head " + strconv.Itoa(a) + ", " + strconv.Itoa(b)
			if a == 120 && (b == 1 || b == 94 || b == 156 || b == 218) {
				wantUnpacked(t, name, s, "a")
			} else {
				wantRefused(t, name, s)
			}
		}
	}
}

func TestUnpackBlocks(t *testing.T) {
	every := byteRange(0, 255)
	full := someBytes(1, 65535, every)
	long := someBytes(2, 32768, every)
	for name, c := range map[string]struct {
		m    *maker
		want string
	}{
		"an empty plain block":         {new(maker).plain(1, ""), ""},
		"a plain block":                {new(maker).plain(1, every), every},
		"a full plain block":           {new(maker).plain(1, full), full},
		"full plain blocks":            {new(maker).plain(0, full).plain(0, full).plain(1, "x"), full + full + "x"},
		"an empty coded block":         {new(maker).begin(1, 1).end(), ""},
		"every byte as a code":         {new(maker).begin(1, 1).text(every).end(), every},
		"empty blocks":                 {new(maker).begin(0, 1).end().plain(0, "").begin(0, 1).end().begin(0, 1).end().plain(1, ""), ""},
		"coded, plain, coded":          {new(maker).begin(0, 1).text("\xffa").end().plain(0, "b").begin(1, 1).text("c").end(), "\xffabc"},
		"plain, coded, plain":          {new(maker).plain(0, "a").begin(0, 1).text("b").end().plain(1, "c"), "abc"},
		"again from a plain block":     {new(maker).plain(0, "abcd").begin(1, 1).copyOf(3, 4).end(), "abcdabc"},
		"again from a coded block":     {new(maker).begin(0, 1).text("abcd").end().begin(1, 1).copyOf(4, 4).end(), "abcdabcd"},
		"again over several blocks":    {new(maker).plain(0, "a").begin(0, 1).text("b").end().plain(0, "").begin(1, 1).copyOf(5, 2).end(), "abababa"},
		"again into itself":            {new(maker).begin(1, 1).text("ab").copyOf(258, 1).copyOf(11, 2).end(), "a" + strings.Repeat("b", 270)},
		"again from all the bytes":     {new(maker).plain(0, long).begin(1, 1).copyOf(258, 32768).end(), long + long[:258]},
		"again from among many":        {new(maker).plain(0, full).begin(1, 1).copyOf(258, 32768).end(), full + full[32767:][:258]},
		"257 by the code 284":          {new(maker).begin(1, 1).text("a").again(284, 30, 0, 0).end(), strings.Repeat("a", 258)},
		"258 by the code 285":          {new(maker).begin(1, 1).text("a").again(285, 0, 0, 0).end(), strings.Repeat("a", 259)},
		"bytes of one bit after codes": {new(maker).begin(0, 1).end().begin(1, 1).text("\x00\x00\x00").end(), "\x00\x00\x00"},
	} {
		wantUnpacked(t, name, c.m.packed(c.want), c.want)
	}
}

// Every code of a length and of a distance, with the least and the most of its
// more bits.
func TestUnpackEveryLengthAndDistance(t *testing.T) {
	ahead := someBytes(3, 32768, byteRange(0, 255))
	for n := 3; n <= 258; n++ {
		want := ahead + ahead[1000:1000+n]
		wantUnpacked(t, "the length "+strconv.Itoa(n), madeBehind(ahead, new(maker).begin(1, 1).copyOf(n, 32768-1000).end(), want), want)
	}
	begin, more := distanceStarts()
	for k := range begin {
		for _, far := range []int{0, 1<<more[k] - 1} {
			d := begin[k] + far
			m := new(maker).begin(1, 1).again(257, 0, k, far).end()
			want := ahead
			for range 3 {
				want += want[len(want)-d:][:1]
			}
			wantUnpacked(t, "the distance "+strconv.Itoa(d), madeBehind(ahead, m, want), want)
		}
	}
	if last := begin[29] + 1<<more[29] - 1; last != 32768 {
		t.Errorf("the farthest is %d", last)
	}
}

func TestUnpackRefuses(t *testing.T) {
	long := someBytes(4, 40000, byteRange(0, 255))
	for name, c := range map[string]struct {
		m    *maker
		want string
	}{
		"the kind 2":                 {new(maker).begin(1, 2).end(), ""},
		"the kind 3":                 {new(maker).begin(1, 3).end(), ""},
		"the kind 2 behind":          {new(maker).plain(0, "a").begin(1, 2).end(), "a"},
		"the kind 3 behind":          {new(maker).begin(0, 1).end().begin(1, 3).end(), ""},
		"the code 284 for 258":       {new(maker).begin(1, 1).text("a").again(284, 31, 0, 0).end(), strings.Repeat("a", 259)},
		"again from none":            {new(maker).begin(1, 1).copyOf(3, 1).end(), ""},
		"again from one too many":    {new(maker).begin(1, 1).text("abc").copyOf(3, 4).end(), "abc"},
		"again from ahead of blocks": {new(maker).plain(0, "abc").begin(1, 1).text("d").copyOf(3, 5).end(), "abcd"},
		"again from far too many":    {new(maker).plain(0, long[:32767]).begin(1, 1).copyOf(3, 32768).end(), long[:32767]},
		"no last block":              {new(maker).plain(0, "a"), "a"},
		"codes without an end":       {new(maker).begin(1, 1).text("\x90\x90"), "\x90\x90"},
	} {
		wantRefused(t, name, c.m.packed(c.want))
		wantRefused(t, name+", with bytes behind", c.m.packed(c.want)+"\xff\xff\xff\xff")
	}
}

// Whatever length and however many more bits such a code might be taken for.
func TestUnpackRefusesLengthCodes(t *testing.T) {
	for _, code := range []int{286, 287} {
		for more := range 8 {
			s := new(maker).begin(1, 1).text("a").put(codeBits(code), lowBits(0, more), highBits(0, 5)).end().bytes()
			for n := range 600 {
				wantRefused(t, "the code "+strconv.Itoa(code), head+s+sumOf(strings.Repeat("a", 1+n)))
			}
		}
	}
}

// Among bytes that are all the same any distance would give the same.
func TestUnpackRefusesDistanceCodes(t *testing.T) {
	ahead := strings.Repeat("a", 100000)
	for _, code := range []int{30, 31} {
		for more := range 16 {
			m := new(maker).begin(1, 1).put(codeBits(257), highBits(code, 5), lowBits(0, more)).end()
			wantRefused(t, "the distance code "+strconv.Itoa(code), madeBehind(ahead, m, ahead+"aaa"))
		}
	}
}

// A plain block may begin at any bit of a byte: what is left of it must be 0.
func TestUnpackBitsLeftAheadOfPlain(t *testing.T) {
	for ahead := range 8 {
		start := func() *maker {
			return new(maker).begin(0, 1).text(strings.Repeat("\xff", ahead)).end().begin(1, 0)
		}
		left := (8 - start().bits.Len()%8) % 8
		for set := range 1 << left {
			m := start().put(lowBits(set, left)).put(lowBits(1, 16), lowBits(65534, 16), lowBits('a', 8))
			want := strings.Repeat("\xff", ahead) + "a"
			if set == 0 {
				wantUnpacked(t, "bits ahead of plain", m.packed(want), want)
			} else {
				wantRefused(t, "a bit set ahead of plain", m.packed(want))
			}
		}
	}
}

func TestUnpackBitsLeftBehindBlocks(t *testing.T) {
	for ahead := range 8 {
		want := strings.Repeat("\xff", ahead)
		start := func() *maker { return new(maker).begin(1, 1).text(want).end() }
		left := (8 - start().bits.Len()%8) % 8
		for set := range 1 << left {
			m := start().put(lowBits(set, left))
			if set == 0 {
				wantUnpacked(t, "bits behind the blocks", m.packed(want), want)
			} else {
				wantRefused(t, "a bit set behind the blocks", m.packed(want))
			}
		}
	}
}

func TestUnpackLengthOfPlain(t *testing.T) {
	for i := range 16 {
		for _, n := range []int{0, 1, 3} {
			m := new(maker).begin(1, 0).fill("0").put(lowBits(n, 16), lowBits((65535-n)^1<<i, 16), lowBits(0, 8*n))
			wantRefused(t, "a plain block of a wrong rest", m.packed(strings.Repeat("\x00", n)))
		}
	}
}

func TestUnpackCutOrWithAWrongSum(t *testing.T) {
	for _, s := range []string{
		new(maker).plain(0, "ab").plain(1, "cde").packed("abcde"),
		new(maker).begin(1, 1).text("ab\x90\xff").copyOf(130, 3).copyOf(10, 120).end().packed("ab\x90\xff" + strings.Repeat("b\x90\xff", 50)[:130] + strings.Repeat("b\x90\xff", 50)[1:][:10]),
		press.Pack([]string{"some words and some more words and some more"}),
		press.Pack(nil),
	} {
		if _, n, e := press.Unpack(s); n != len(s) || e != api.OK {
			t.Fatalf("P4: %x: took %d, %d", s, n, e)
		}
		for n := range len(s) {
			wantRefused(t, "cut", s[:n])
		}
		for i := range 32 {
			b := []byte(s)
			b[len(b)-4+i/8] ^= 1 << (i % 8)
			wantRefused(t, "a wrong sum", string(b))
		}
	}
	low := sumOf("a")
	wantRefused(t, "a sum with the low byte first", head+new(maker).plain(1, "a").bytes()+string([]byte{low[3], low[2], low[1], low[0]}))
}

// Sums of many high bytes go round the modulus.
func TestUnpackSumOfMany(t *testing.T) {
	for _, n := range []int{256, 257, 258, 5552, 5553, 65521, 100000} {
		all := strings.Repeat("\xff", n)
		s := press.Pack([]string{all})
		if s[len(s)-4:] != sumOf(all) {
			t.Errorf("P3: the sum of %d bytes is %x", n, s[len(s)-4:])
		}
		wantUnpacked(t, "many high bytes", s, all)
	}
}

// Whatever gives the last byte: it may be the last of MaxBytes, but none more.
func TestUnpackMaxBytes(t *testing.T) {
	long := strings.Repeat("a", api.MaxBytes+1)
	for name, c := range map[string]struct {
		last  *maker
		gives int
	}{
		"plain":                 {new(maker).plain(1, "a"), 1},
		"more plain":            {new(maker).plain(1, long[:300]), 300},
		"a code":                {new(maker).begin(1, 1).text("a").end(), 1},
		"again":                 {new(maker).begin(1, 1).copyOf(3, 1).end(), 3},
		"again, far":            {new(maker).begin(1, 1).copyOf(258, 32768).end(), 258},
		"again, and nothing":    {new(maker).begin(0, 1).copyOf(258, 1).end().plain(1, ""), 258},
		"nothing but an ending": {new(maker).begin(1, 1).end(), 0},
	} {
		for over := range 2 {
			all := long[:api.MaxBytes+over]
			s := madeBehind(all[c.gives:], c.last, all)
			if over == 0 {
				wantUnpacked(t, "MaxBytes, "+name, s, all)
			} else {
				wantRefused(t, "above MaxBytes, "+name, s)
			}
		}
	}
	for _, all := range []string{long[1:], someBytes(5, api.MaxBytes, byteRange(0, 255))} {
		wantUnpacked(t, "MaxBytes packed", press.Pack([]string{all}), all)
		wantRefused(t, "above MaxBytes packed", press.Pack([]string{all, "a"}))
	}
	wantRefused(t, "far above MaxBytes", press.Pack([]string{strings.Repeat("a", 20<<20)}))
}

// madeBehind are packed bytes: some as they are, and behind them what was made.
func madeBehind(ahead string, m *maker, want string) string {
	return head + plainBlocks(ahead) + m.bytes() + sumOf(want)
}

// plainBlocks are plain blocks without a last one.
func plainBlocks(s string) string {
	var b []byte
	for s != "" {
		n := min(len(s), 65535)
		b = append(b, 0, byte(n), byte(n>>8), ^byte(n), ^byte(n>>8))
		b = append(b, s[:n]...)
		s = s[n:]
	}
	return string(b)
}

// Blocks that end ahead of a last one, at any bit of a byte.
func TestUnpackCutBetweenBlocks(t *testing.T) {
	for n := range 16 {
		m := new(maker)
		for range n {
			m.begin(0, 1).end()
		}
		m.begin(0, 1).text(strings.Repeat("\xff", n)).end()
		wantRefused(t, "cut between blocks", head+m.bytes())
	}
}

// Blocks that give nothing are packed too, however many.
func TestUnpackManyEmptyBlocks(t *testing.T) {
	empty := strings.Repeat("\x00\x00\x00\xff\xff", 500000)
	wantUnpacked(t, "many empty blocks", head+empty+"\x01\x01\x00\xfe\xffa"+sumOf("a"), "a")
	wantRefused(t, "many empty blocks without a last", head+empty)
	wantRefused(t, "bytes of ones", head+strings.Repeat("\xff", 1<<20))
	wantRefused(t, "bytes of noughts", head+strings.Repeat("\x00", 1<<20))
}

// Blocks of all kinds of codes, with bits changed at any places, held against
// the plain reading of the document.
func TestUnpackOfChangedBlocks(t *testing.T) {
	table := codeTable()
	taken, refused := 0, 0
	for seed := range int64(4000) {
		r := rand.New(rand.NewSource(seed))
		b := []byte(anyBlocks(r) + "\x00\x00\x00\x00\x00\x00\x00\x00")
		for range r.Intn(4) {
			b[r.Intn(len(b))] ^= 1 << r.Intn(8)
		}
		s := string(b)
		want, end, ok := slowBlocks(s, table)
		if !ok {
			refused++
			wantRefused(t, "changed blocks", head+s)
			continue
		}
		taken++
		wantUnpacked(t, "changed blocks", head+s[:end]+sumOf(want), want)
	}
	if taken < 500 || refused < 500 {
		t.Errorf("%d were taken, %d refused: too few to tell", taken, refused)
	}
}

func anyBlocks(r *rand.Rand) string {
	m := new(maker)
	for k := 1 + r.Intn(3); k > 0; k-- {
		last := 0
		if k == 1 {
			last = 1
		}
		if r.Intn(3) == 0 {
			m.plain(last, someBytes(r.Int63(), r.Intn(6), "ab\xff"))
			continue
		}
		m.begin(last, 1).text("xyz")
		for range r.Intn(6) {
			m.text(someBytes(r.Int63(), r.Intn(4), byteRange(0, 255)))
			m.copyOf(3+r.Intn(256), 1+r.Intn(3))
		}
		m.end()
	}
	return m.bytes()
}

func TestUnpackOfAnyBytes(t *testing.T) {
	set := byteRange(0, 255)
	for seed := range int64(20000) {
		s := someBytes(seed, int(seed%60), set)
		for _, s := range []string{s, head + s} {
			if got, n, e := press.Unpack(s); e == api.ErrBytes && (got != "" || n != 0) {
				t.Errorf("P1: %x: with an error %d bytes, took %d", s, len(got), n)
			} else if e != api.ErrBytes && e != api.OK {
				t.Errorf("P4: %x: %d", s, e)
			}
		}
	}
}

func TestUnpackHangsOnItsBytesAlone(t *testing.T) {
	s := press.Pack([]string{"the same", " the same the same"})
	first, took, _ := press.Unpack(s)
	press.Unpack(s[:len(s)-1])
	press.Unpack(press.Pack([]string{"another"}))
	if again, n, e := press.Unpack(s); again != first || n != took || e != api.OK {
		t.Error("P2: the same bytes were unpacked in two ways")
	}
}

func TestUnpackIsNewMemory(t *testing.T) {
	plain := "bytes that stand in the packed ones as they are"
	s := strings.Clone(new(maker).plain(1, plain).packed(plain))
	got, _, _ := press.Unpack(s)
	from := uintptr(unsafe.Pointer(unsafe.StringData(s)))
	at := uintptr(unsafe.Pointer(unsafe.StringData(got)))
	if got != plain || at >= from && at < from+uintptr(len(s)) {
		t.Error("P2: what Unpack gives shares memory with what it was given")
	}
}
