package press_test

import (
	"bytes"
	"compress/zlib"
	"fmt"
	"io"
	"math"
	"math/rand"
	"regexp"
	"strconv"
	"strings"
	"testing"

	"press/api"
	"press/press"
)

// A second, plain reading of what is drawn on a page, by patterns.

const (
	aNumber = `(-?[0-9]+(?:\.[0-9]+)?) `
	aString = `\(((?:[^()\\]|\\[()\\]|\\[0-7]{3})*)\) `
)

var (
	textPattern  = regexp.MustCompile(`^BT /F1 ` + aNumber + `Tf ` + aNumber + aNumber + `Td ` + aString + "Tj ET\n")
	linePattern  = regexp.MustCompile(`^` + aNumber + `w ` + aNumber + aNumber + `m ` + aNumber + aNumber + "l S\n")
	rectPattern  = regexp.MustCompile(`^` + aNumber + `g ` + aNumber + aNumber + aNumber + aNumber + "re f\n")
	imagePattern = regexp.MustCompile(`^q ` + aNumber + `0 0 ` + aNumber + aNumber + aNumber + `cm BI /W ([0-9]+) /H ([0-9]+) /CS /G /BPC 8 ID `)
	bytePattern  = regexp.MustCompile(`\\[()\\]|\\[0-7]{3}`)
)

func thousandths(s string) int {
	x, err := strconv.ParseFloat(s, 64)
	if err != nil || math.Abs(x) > 1e9 {
		return math.MaxInt
	}
	return int(math.Round(1000 * x))
}

func unbracketed(s string) string {
	return bytePattern.ReplaceAllStringFunc(s, func(x string) string {
		if len(x) == 2 {
			return x[1:]
		}
		n, _ := strconv.ParseUint(x[1:], 8, 16)
		return string([]byte{byte(n)})
	})
}

// opAt is the operation with which s begins, if one does.
func opAt(s string) (api.Op, bool) {
	var o api.Op
	if m := textPattern.FindStringSubmatch(s); m != nil {
		o = api.Op{Kind: 1, A: thousandths(m[2]), B: thousandths(m[3]), C: thousandths(m[1]), S: unbracketed(m[4])}
	}
	if m := linePattern.FindStringSubmatch(s); m != nil {
		o = api.Op{Kind: 2, A: thousandths(m[2]), B: thousandths(m[3]), C: thousandths(m[4]), D: thousandths(m[5]), E: thousandths(m[1])}
	}
	if m := rectPattern.FindStringSubmatch(s); m != nil {
		o = api.Op{Kind: 3, A: thousandths(m[2]), B: thousandths(m[3]), C: thousandths(m[4]), D: thousandths(m[5]), E: thousandths(m[1])}
	}
	if m := imagePattern.FindStringSubmatch(s); m != nil {
		cols, _ := strconv.Atoi(m[5])
		rows, _ := strconv.Atoi(m[6])
		o = api.Op{Kind: 4, A: thousandths(m[3]), B: thousandths(m[4]), C: thousandths(m[1]), D: thousandths(m[2]), Cols: cols, Rows: rows}
		if n := cols * rows; cols <= 64 && rows <= 64 && len(m[0])+n <= len(s) {
			o.S = s[len(m[0]) : len(m[0])+n]
		}
	}
	return o, isOp(o) && strings.HasPrefix(s, opText(o))
}

// opsIn are the operations that s is, if it is some.
func opsIn(s string) ([]api.Op, bool) {
	var ops []api.Op
	for s != "" {
		o, ok := opAt(s)
		if !ok {
			return nil, false
		}
		ops = append(ops, o)
		s = s[len(opText(o)):]
	}
	return ops, true
}

// drawnFile is a file of one page with that content, whatever it is.
func drawnFile(content string) string {
	return fileOf(api.Document{Pages: []api.Page{{W: 1000, H: 1000}}}, []string{packAll(content)})
}

// wantDrawn reads a page with some content; tells whether that was operations.
func wantDrawn(t *testing.T, content string) bool {
	t.Helper()
	ops, ok := opsIn(content)
	if ok {
		wantRead(t, fmt.Sprintf("%.200q", content), drawnFile(content), api.Document{Pages: []api.Page{{W: 1000, H: 1000, Ops: ops}}})
	} else {
		wantUnread(t, fmt.Sprintf("%.200q", content), drawnFile(content))
	}
	return ok
}

// P13: numbers and strings that are written otherwise than they must be, what
// is out of bounds, and what is too much or lacks.
func TestReadWrongDrawings(t *testing.T) {
	if ops, ok := opsIn(opsText(someOps())); !ok || fmt.Sprint(ops) != fmt.Sprint(someOps()) {
		t.Fatal("the second reading does not read all")
	}
	wantDrawn(t, opsText(someOps()))
	for _, c := range []string{
		"\n", " ", "x", "BT", "S\n", "f\n", "ET\n", "ID \n", "EI Q\n", "()", "(", "\x00",
		" 0 w 0 0 m 0 0 l S\n", "0 w 0 0 m 0 0 l S", "0 w 0 0 m 0 0 l S\n\n", "0 w 0 0 m 0 0 l S ", "0 w 0 0 m 0 0 l S\r\n", "0 w 0 0 m 0 0 l s\n",
		"0  w 0 0 m 0 0 l S\n", "0 w 0 0 m 0 0 l  S\n", "0 w\n0 0 m 0 0 l S\n", "0\tw 0 0 m 0 0 l S\n", "0 w 0 0 m 0 0 l S\n%\n",
		"0 w 0 0 m 0 l S\n", "0 w 0 0 m 0 0 0 l S\n", "w 0 0 m 0 0 l S\n", "0 w 0 0 l 0 0 m S\n", "0 w 0 0 m S\n", "0 w 0 0 m 0 0 l f\n",
		"-0 w 0 0 m 0 0 l S\n", "0 w -0 0 m 0 0 l S\n", "0 w 0.0 0 m 0 0 l S\n", "0 w 0. 0 m 0 0 l S\n", "0 w .5 0 m 0 0 l S\n", "0 w -.5 0 m 0 0 l S\n",
		"0 w 00 0 m 0 0 l S\n", "0 w 01 0 m 0 0 l S\n", "0 w +1 0 m 0 0 l S\n", "0 w 1.50 0 m 0 0 l S\n", "0 w 1.0005 0 m 0 0 l S\n", "0 w 1e3 0 m 0 0 l S\n",
		"0 w 1,5 0 m 0 0 l S\n", "0 w --1 0 m 0 0 l S\n", "0 w 0x1 0 m 0 0 l S\n", "0 w 1_0 0 m 0 0 l S\n", "0 w 1.-5 0 m 0 0 l S\n", "0 w 1.5.5 0 m 0 0 l S\n",
		"0 w 14400.001 0 m 0 0 l S\n", "0 w -14400.001 0 m 0 0 l S\n", "0 w 0 14401 m 0 0 l S\n", "-0.001 w 0 0 m 0 0 l S\n", "14400.001 w 0 0 m 0 0 l S\n",
		"0 w 18446744073709551.616 0 m 0 0 l S\n", "0 w 9223372036854775808 0 m 0 0 l S\n", "0 w -9223372036854775.808 0 m 0 0 l S\n", "0 w 99999999999999999999999 0 m 0 0 l S\n",
		"0 w NaN 0 m 0 0 l S\n", "0 w Inf 0 m 0 0 l S\n", "0 w (1) 0 m 0 0 l S\n", "0 w [1 0 m 0 0 l S\n", "0 w 1] 0 m 0 0 l S\n",
		"0 g 0 0 -0.001 0 re f\n", "0 g 0 0 0 -0.001 re f\n", "-0.001 g 0 0 0 0 re f\n", "1.001 g 0 0 0 0 re f\n", "0 g 0 0 0 14400.001 re f\n", "0 g 0 0 0 0 f\n", "0 g 0 0 0 0 re\n",
		"BT /F1 0 Tf 0 0 Td () Tj ET\n", "BT /F1 -1 Tf 0 0 Td () Tj ET\n", "BT /F1 14400.001 Tf 0 0 Td () Tj ET\n", "BT /F2 1 Tf 0 0 Td () Tj ET\n", "BT 1 Tf 0 0 Td () Tj ET\n",
		"BT /F1 1 Tf 0 0 Td Tj ET\n", "BT /F1 1 Tf 0 0 Td ( Tj ET\n", "BT /F1 1 Tf 0 0 Td ) Tj ET\n", "BT /F1 1 Tf 0 0 Td () () Tj ET\n", "BT /F1 1 Tf 0 0 Td <> Tj ET\n",
		"BT /F1 1 Tf 0 0 Td (() Tj ET\n", "BT /F1 1 Tf 0 0 Td (()) Tj ET\n", "BT /F1 1 Tf 0 0 Td (\\) Tj ET\n", "BT /F1 1 Tf 0 0 Td (\\a) Tj ET\n", "BT /F1 1 Tf 0 0 Td (\\n) Tj ET\n",
		"BT /F1 1 Tf 0 0 Td (\\101) Tj ET\n", "BT /F1 1 Tf 0 0 Td (\\12) Tj ET\n", "BT /F1 1 Tf 0 0 Td (\\400) Tj ET\n", "BT /F1 1 Tf 0 0 Td (\\777) Tj ET\n", "BT /F1 1 Tf 0 0 Td (\\08) Tj ET\n",
		"BT /F1 1 Tf 0 0 Td (\\050) Tj ET\n", "BT /F1 1 Tf 0 0 Td (\n) Tj ET\n", "BT /F1 1 Tf 0 0 Td (\xff) Tj ET\n", "BT /F1 1 Tf 0 0 Td (\x7f) Tj ET\n", "BT /F1 1 Tf 0 0 Td (\\176) Tj ET\n", "BT /F1 1 Tf 0 0 Td (\\040) Tj ET\n",
		"BT /F1 1 Tf 0 0 Td (" + strings.Repeat("x", 101) + ") Tj ET\n", "BT /F1 1 Tf 0 0 Td (" + strings.Repeat("\\377", 101) + ") Tj ET\n",
		"q 1 0 0 1 0 0 cm BI /W 1 /H 1 /CS /G /BPC 8 ID \nEI Q\n", "q 1 0 0 1 0 0 cm BI /W 1 /H 1 /CS /G /BPC 8 ID xx\nEI Q\n", "q 1 0 0 1 0 0 cm BI /W 1 /H 1 /CS /G /BPC 8 ID x EI Q\n",
		"q 1 0 0 1 0 0 cm BI /W 1 /H 1 /CS /G /BPC 8 ID x\nEI Q", "q 1 0 0 1 0 0 cm BI /W 1 /H 1 /CS /G /BPC 8 ID", "q 1 0 0 1 0 0 cm BI /W 1 /H 1 /CS /G /BPC 8 ID ", "q 1 0 0 1 0 0 cm BI /W 1 /H 1 /CS /G /BPC 8 ID\nx\nEI Q\n",
		"q 1 0 0 1 0 0 cm BI /W 0 /H 1 /CS /G /BPC 8 ID \nEI Q\n", "q 1 0 0 1 0 0 cm BI /W -1 /H -1 /CS /G /BPC 8 ID x\nEI Q\n", "q 1 0 0 1 0 0 cm BI /W 1.5 /H 1 /CS /G /BPC 8 ID x\nEI Q\n",
		"q 1 0 0 1 0 0 cm BI /W 65 /H 1 /CS /G /BPC 8 ID " + strings.Repeat("x", 65) + "\nEI Q\n", "q 1 0 0 1 0 0 cm BI /W 1 /H 65 /CS /G /BPC 8 ID " + strings.Repeat("x", 65) + "\nEI Q\n",
		"q 1 0 0 1 0 0 cm BI /W 01 /H 1 /CS /G /BPC 8 ID x\nEI Q\n", "q 1 0 0 1 0 0 cm BI /W 4294967297 /H 4294967297 /CS /G /BPC 8 ID x\nEI Q\n", "q 1 0 0 1 0 0 cm BI /W 9223372036854775807 /H 3 /CS /G /BPC 8 ID x\nEI Q\n",
		"q 0 0 0 1 0 0 cm BI /W 1 /H 1 /CS /G /BPC 8 ID x\nEI Q\n", "q 1 0 0 0 0 0 cm BI /W 1 /H 1 /CS /G /BPC 8 ID x\nEI Q\n", "q 1 1 0 1 0 0 cm BI /W 1 /H 1 /CS /G /BPC 8 ID x\nEI Q\n", "q 1 0 1 1 0 0 cm BI /W 1 /H 1 /CS /G /BPC 8 ID x\nEI Q\n",
		"q 1 0 0 1 0 0 cm BI /W 1 /H 1 /CS /G /BPC 4 ID x\nEI Q\n", "q 1 0 0 1 0 0 cm BI /W 1 /H 1 /CS /RGB /BPC 8 ID x\nEI Q\n", "q 1 0 0 1 0 0 cm BI /H 1 /W 1 /CS /G /BPC 8 ID x\nEI Q\n", "q 1 0 0 1 0 0 0 cm BI /W 1 /H 1 /CS /G /BPC 8 ID x\nEI Q\n",
		"q 14400.001 0 0 1 0 0 cm BI /W 1 /H 1 /CS /G /BPC 8 ID x\nEI Q\n", "q 1 0 0 1 0 -14400.001 cm BI /W 1 /H 1 /CS /G /BPC 8 ID x\nEI Q\n", "q 1 0 0 1 0 0 cm BI /W 1 /H 1 /CS /G /BPC 8 8 ID x\nEI Q\n",
		strings.Repeat("0 ", 1000), strings.Repeat("(x) ", 1000), strings.Repeat("w ", 1000) + "S\n", strings.Repeat("[", 1000), strings.Repeat("(", 1000), strings.Repeat("\\", 1000),
	} {
		if wantDrawn(t, c) || wantDrawn(t, opText(aLine)+c) {
			t.Errorf("%q is an operation", c)
		}
		if wantDrawn(t, c+opText(aText)) && c != "" {
			t.Errorf("%q is no operation, but with one behind it", c)
		}
	}
}

// changed changes a byte or some at any place.
func changed(r *rand.Rand, s string) string {
	const set = "0123456789. -()\\\nSfET[]w1x\x00\xff"
	i := r.Intn(len(s))
	k := min(len(s), i+1+r.Intn(3))
	switch r.Intn(6) {
	case 0:
		return s[:i] + s[i+1:]
	case 1:
		return s[:i] + s[k:]
	case 2:
		return s[:i] + string(set[r.Intn(len(set))]) + s[i:]
	case 3:
		return s[:k] + s[i:]
	case 4:
		return s[:i] + string([]byte{byte(r.Intn(256))}) + s[i+1:]
	}
	return s[:i] + string(set[r.Intn(len(set))]) + s[i+1:]
}

// P13: what is drawn, changed at any places, held against the second reading.
func TestReadChangedDrawings(t *testing.T) {
	fine := 0
	for seed := range int64(6000) {
		r := rand.New(rand.NewSource(seed))
		var ops []api.Op
		for range 1 + r.Intn(4) {
			if o := anyOp(r); isOp(o) {
				ops = append(ops, o)
			}
		}
		content := opsText(append(ops, aLine))
		for range r.Intn(3) {
			content = changed(r, content)
		}
		if wantDrawn(t, content) {
			fine++
		}
	}
	if fine < 2000 || fine > 5000 {
		t.Errorf("%d of 6000 are operations", fine)
	}
}

// P13: any packing, but none that is wrong.
func TestReadAnyPacking(t *testing.T) {
	d := api.Document{Title: "t", Pages: []api.Page{{W: 1, H: 2, Ops: someOps()[:6]}, {W: 3, H: 4}, {W: 5, H: 6, Ops: someOps()[6:9]}}, Marks: []api.Mark{{Title: "m", Page: 2}}}
	for name, pack := range map[string]func(string) string{
		"one piece": packAll,
		"pieces":    func(s string) string { return press.Pack(strings.SplitAfter(s, " ")) },
		"plain":     packPlain,
		"codes":     func(s string) string { return new(maker).begin(1, 1).text(s).end().packed(s) },
		"blocks": func(s string) string {
			n := len(s) / 2
			return new(maker).plain(0, "").begin(0, 1).text(s[:n]).end().begin(0, 1).end().plain(0, s[n:]).begin(1, 1).end().packed(s)
		},
		"another head":   func(s string) string { return "\x78\x5e" + packAll(s)[2:] },
		"a common head":  func(s string) string { return "\x78\x9c" + packAll(s)[2:] },
		"a greater head": func(s string) string { return "\x78\xda" + packPlain(s)[2:] },
	} {
		wantRead(t, name, fileBy(pack, d), d)
	}
	for name, pack := range map[string]func(string) string{
		"nothing":                func(s string) string { return "" },
		"not packed":             func(s string) string { return s },
		"a byte more":            func(s string) string { return packAll(s) + "\n" },
		"twice":                  func(s string) string { return packAll(s) + packAll(s) },
		"a byte less":            func(s string) string { return packAll(s)[:len(packAll(s))-1] },
		"a byte ahead":           func(s string) string { return "\n" + packAll(s) },
		"a wrong sum":            func(s string) string { return packAll(s)[:len(packAll(s))-4] + sumOf(s+"x") },
		"another head, wrong":    func(s string) string { return "\x78\x02" + packAll(s)[2:] },
		"a head with bit 5":      func(s string) string { return "\x78\xbb" + packAll(s)[2:] },
		"without a last block":   func(s string) string { return head + plainBlocks(s) + sumOf(s) },
		"a bit left over":        func(s string) string { return new(maker).begin(1, 1).text(s).end().fill("1").packed(s) },
		"by the library's codes": packByLibrary,
	} {
		wantUnread(t, name, fileBy(pack, d))
		// One wrong page is enough.
		for i := range d.Pages {
			packed := packedBy(packAll, d)
			packed[i] = pack(opsText(d.Pages[i].Ops))
			wantUnread(t, fmt.Sprint(name, ", page ", i), fileOf(d, packed))
		}
	}
}

// packByLibrary packs by a block of the kind 2, which Go's library makes.
func packByLibrary(s string) string {
	var b bytes.Buffer
	z, _ := zlib.NewWriterLevel(&b, zlib.HuffmanOnly)
	io.WriteString(z, s)
	z.Close()
	if b.Bytes()[2]>>1&3 == 2 {
		return b.String()
	}
	// Too short for the library: the head of such a block is enough.
	return head + "\x05" + b.String()[3:]
}
