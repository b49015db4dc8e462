package press_test

import (
	"slices"
	"strconv"
	"strings"
	"testing"

	"press/api"
	"press/press"
)

func TestPackGivesThePieces(t *testing.T) {
	all := byteRange(0, 255)
	for name, pieces := range map[string][]string{
		"nil":                   nil,
		"none":                  {},
		"an empty one":          {""},
		"empty ones":            {"", "", ""},
		"one byte":              {"a"},
		"empty ones among some": {"", "ab", "", "", "c", ""},
		"every byte":            {all},
		"every byte, twice":     {all, all},
		"every byte by itself":  strings.Split(strings.Repeat("\x00\x8f\x90\xff", 64), ""),
		"not UTF-8":             {"\xc3", "\x28\xed\xa0\x80", "\xff\xfe"},
		"a report's operations": {strings.Repeat("BT /F1 12 Tf 1.5 -0.02 Td (a\\(b) Tj ET\n", 50)},
		"many pieces":           slices.Repeat([]string{"ab", "c", "", "abcd"}, 5000),
		"long ones":             {someBytes(1, 300000, all), someBytes(2, 300000, "ab"), someBytes(1, 300000, all)},
		"above MaxBytes":        {someBytes(3, 2<<20, "abcdefgh"), strings.Repeat("x", 1<<20), someBytes(3, 2<<20, all)},
	} {
		wantPacked(t, name, pieces)
	}
}

func TestPackOfEveryShortLength(t *testing.T) {
	set := byteRange(0, 255)
	for n := range 700 {
		wantPacked(t, "the same byte", []string{strings.Repeat("a", n)})
		wantPacked(t, "any bytes", []string{someBytes(int64(n), n, set)})
		wantPacked(t, "two bytes", []string{someBytes(int64(n), n, "\x8f\x90")})
	}
}

// What comes again does so from up to 32768 bytes before and no further, and
// at most 258 bytes at once.
func TestPackWhatComesAgain(t *testing.T) {
	long := someBytes(4, 70000, byteRange(0, 255))
	for _, d := range []int{1, 2, 3, 4, 5, 8, 9, 255, 256, 257, 258, 259, 24576, 24577, 32505, 32766, 32767, 32768, 32769, 32770, 65535, 65536, 65537} {
		for _, n := range []int{2, 3, 4, 5, 10, 11, 12, 130, 131, 257, 258, 259, 260, 516, 517, 3000, 70000} {
			m := min(n, d)
			wantPacked(t, strconv.Itoa(n)+" bytes from "+strconv.Itoa(d)+" before", []string{long[:d], long[:m], "!"})
		}
	}
	for _, n := range []int{32767, 32768, 32769, 40000} {
		wantPacked(t, "a period of "+strconv.Itoa(n), slices.Repeat([]string{long[:n]}, 5))
	}
}

func TestPackOfBytesThatAreTheSame(t *testing.T) {
	for c := range 256 {
		for _, n := range []int{1000, 1001, 1009, 1010, 4097} {
			wantSmall(t, []string{strings.Repeat(string([]byte{byte(c)}), n)}, n)
		}
	}
	for _, n := range []int{1000, 32768, 32769, 65536, 100000, api.MaxBytes, 3 << 20} {
		wantSmall(t, []string{strings.Repeat("\xff", n)}, n)
		wantSmall(t, []string{"\xff", strings.Repeat("\xff", n-1)}, n)
	}
	for _, n := range []int{1000, 70001} {
		wantSmall(t, slices.Repeat([]string{"\xe0"}, n), n)
		wantSmall(t, slices.Repeat([]string{"", "\xe0", ""}, n), n)
	}
}

func wantSmall(t *testing.T, pieces []string, n int) {
	t.Helper()
	s := wantPacked(t, "bytes that are the same", pieces)
	if 10*(len(s)-30) > n {
		t.Errorf("P3: %d bytes that are the same are packed as %d", n, len(s))
	}
}

// The bytes from 144 on have the longest codes; and single bytes as pieces
// must cost no more than one long piece.
func TestPackIsNeverMuchLonger(t *testing.T) {
	dear := byteRange(144, 255)
	for _, n := range []int{0, 1, 2, 3, 10, 29, 30, 31, 150, 1000, 65535, 65536, 300000} {
		s := someBytes(int64(n), n, dear)
		wantPacked(t, "dear bytes", []string{s})
		wantPacked(t, "dear bytes, one by one", strings.Split(someBytes(int64(n), n, "\x90\xff"), ""))
		wantPacked(t, "dear bytes and empty pieces", append(slices.Repeat([]string{""}, 1000), s))
	}
	// Short runs that come again from far away.
	far := someBytes(5, 32768, dear)
	var pieces []string
	for i := 0; i+1000 < len(far); i += 7 {
		pieces = append(pieces, far[i:i+4], someBytes(int64(i), 3, dear))
	}
	wantPacked(t, "short runs from far away", append([]string{far}, pieces...))
}

// How the bytes are split may change how they are packed, but not what they are.
func TestPackOfAnySplit(t *testing.T) {
	all := someBytes(6, 3000, "abc") + strings.Repeat("z", 1000) + someBytes(6, 3000, "abc")
	for _, n := range []int{1, 2, 3, 4, 7, 255, 258, 259, 261, 262, 1024, 6999} {
		var pieces []string
		for rest := all; rest != ""; {
			k := min(n, len(rest))
			pieces = append(pieces, rest[:k])
			rest = rest[k:]
		}
		wantPacked(t, "pieces of "+strconv.Itoa(n), pieces)
	}
}

func TestPackHangsOnItsPiecesAlone(t *testing.T) {
	pieces := []string{"one", "", "two two two two two", strings.Repeat("three", 20000)}
	kept := slices.Clone(pieces)
	first := press.Pack(pieces)
	press.Pack([]string{strings.Repeat("two", 50000)})
	press.Unpack("\x78\x01\x03\x80")
	if again := press.Pack(pieces); again != first {
		t.Error("P2: the same pieces were packed in two ways")
	}
	if !slices.Equal(pieces, kept) {
		t.Error("P2: the pieces were written into")
	}
	spare := append(make([]string, 0, 8), pieces...)
	press.Pack(spare[:2])
	if !slices.Equal(spare[:8], append(kept, "", "", "", "")) {
		t.Error("P2: the list behind the pieces was written into")
	}
}

func TestPackInSeveralGoroutines(t *testing.T) {
	all := []string{someBytes(7, 100000, "abcdefgh"), someBytes(8, 100000, byteRange(0, 255))}
	want := []string{press.Pack(all[:1]), press.Pack(all[1:])}
	got := make(chan bool)
	for i := range 8 {
		go func() {
			s := press.Pack(all[i%2 : i%2+1])
			back, _, e := press.Unpack(s)
			got <- s == want[i%2] && back == all[i%2] && e == api.OK
		}()
	}
	for range 8 {
		if !<-got {
			t.Error("P2: calls at the same time change one another")
		}
	}
}
