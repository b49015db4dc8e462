package press_test

import (
	"fmt"
	"math/rand"
	"reflect"
	"strings"
	"sync"
	"testing"
	"unsafe"

	"press/api"
	"press/press"
)

// listed is a document whose lists without members are nil.
func listed(d api.Document) api.Document {
	pages := append([]api.Page(nil), d.Pages...)
	for i := range pages {
		pages[i].Ops = append([]api.Op(nil), pages[i].Ops...)
	}
	return api.Document{Title: d.Title, Pages: pages, Marks: append([]api.Mark(nil), d.Marks...)}
}

// shown is the beginning of a document, to be told.
func shown(d api.Document) string { return fmt.Sprintf("%.300s", fmt.Sprintf("%+q", fmt.Sprint(d))) }

func wantRead(t *testing.T, name string, s string, want api.Document) {
	t.Helper()
	got, e := press.Read(s)
	if e != api.OK || !reflect.DeepEqual(listed(got), listed(want)) {
		t.Errorf("P13: %s: %s, %d; want %s", name, shown(got), e, shown(want))
	}
}

func wantUnread(t *testing.T, name string, s string) {
	t.Helper()
	if got, e := press.Read(s); e != api.ErrBytes || !reflect.DeepEqual(got, api.Document{}) {
		t.Errorf("P13: %s: %s, %d; want ErrBytes", name, shown(got), e)
	}
}

func packAll(s string) string { return press.Pack([]string{s}) }

// packPlain packs bytes as they are.
func packPlain(s string) string { return madeBehind(s, new(maker).plain(1, ""), s) }

// fileBy makes the file of a document with some packing.
func fileBy(pack func(string) string, d api.Document) string { return fileOf(d, packedBy(pack, d)) }

// someOps are operations at the edges that the document names.
func someOps() []api.Op {
	const far = api.MaxPoint
	return []api.Op{
		aText, aLine, wholeImage(aFrame, "\nEI Q\n"),
		{Kind: 1, C: 1}, {Kind: 1, A: -far, B: far, C: far, S: strings.Repeat("\\", 100)},
		{Kind: 1, C: 999, S: byteRange(0, 99)}, {Kind: 1, C: 1001, S: byteRange(100, 199)}, {Kind: 1, C: 1010, S: byteRange(200, 255)},
		{Kind: 1, C: 1, S: ") Tj ET\nS f ID \\101 \\"}, {Kind: 1, C: 1, S: "S"}, {Kind: 1, C: 1, S: "(ET)"},
		{Kind: 2}, {Kind: 2, A: -far, B: far, C: far, D: -far, E: far}, {Kind: 2, A: -1, B: -10, C: -100, D: -1000, E: 100},
		{Kind: 3}, {Kind: 3, A: far, B: -far, C: far, D: far, E: 1000}, {Kind: 3, A: 1, B: 12345, C: 120, D: 2, E: 999},
		{Kind: 4, C: far, D: far, Cols: 64, Rows: 64, S: strings.Repeat(byteRange(0, 255), 16)},
		{Kind: 4, A: -far, B: far, C: 1, D: 1, Cols: 1, Rows: 1, S: " "}, {Kind: 4, C: 1, D: 2, Cols: 1, Rows: 64, S: strings.Repeat("\n", 64)},
		{Kind: 4, C: 1, D: 2, Cols: 64, Rows: 1, S: strings.Repeat("(\\", 32)},
	}
}

// someDocuments are small ones, and such as have all that they may.
func someDocuments() map[string]api.Document {
	long := strings.Repeat("\xff", api.MaxText)
	many := api.Document{Title: long}
	for i := range api.MaxPages {
		many.Pages = append(many.Pages, api.Page{W: 1 + i, H: api.MaxPoint - i, Ops: someOps()[i%20 : i%20+2]})
	}
	for i := range api.MaxMarks {
		many.Marks = append(many.Marks, api.Mark{Title: long[:1+5*i] + "(", Page: i * i / 5})
	}
	many.Marks[api.MaxMarks-1].Page = api.MaxPages - 1
	return map[string]api.Document{
		"no pages":   {},
		"a title":    {Title: "t"},
		"a page":     {Pages: []api.Page{{W: 1, H: api.MaxPoint}}},
		"some pages": {Title: "()\\\n", Pages: []api.Page{{W: 5000, H: 7500, Ops: someOps()}, {W: 1, H: 1}, {W: 12345, H: 10, Ops: someOps()[2:5]}}},
		"marks": {Title: "/Dest [1 0 R", Pages: []api.Page{{W: 1, H: 1}, {W: 2, H: 2}, {W: 3, H: 3}}, Marks: []api.Mark{
			{Title: "a", Page: 0}, {Title: ") /Dest [6 0 R /Fit] >>", Page: 1}, {Title: "\nendobj\nstartxref\n9\n%%EOF\n", Page: 1}, {Title: byteRange(0, 99), Page: 2}, {Title: byteRange(156, 255), Page: 2}}},
		"one mark":       {Pages: []api.Page{{W: 1, H: 1}}, Marks: []api.Mark{{Title: "/Type /Page", Page: 0}}},
		"all it may":     many,
		"every title":    {Title: byteRange(0, 99), Pages: []api.Page{{W: 1, H: 1}}, Marks: []api.Mark{{Title: strings.Repeat("(", 100)}}},
		"another title":  {Title: byteRange(156, 255)},
		"a longer title": {Title: "startxref\n0\n" + byteRange(90, 170)},
	}
}

// P13: the file of a document, made by the calls or otherwise.
func TestReadGivesTheDocument(t *testing.T) {
	for name, d := range someDocuments() {
		wantRead(t, name, fileBy(packAll, d), d)
		w, m := press.New(-1), &model{}
		playSteps(t, w, m, oks(callsOf(d)...))
		wantRead(t, name+", by calls", w.Bytes(), d)
		wantFile(t, w.Bytes(), d)
	}
}

// callsOf are calls that make a document.
func callsOf(d api.Document) []call {
	calls := []call{title(d.Title)}
	for i, p := range d.Pages {
		calls = append(calls, page(p.W, p.H))
		for _, o := range p.Ops {
			calls = append(calls, draw(o))
		}
		for _, m := range d.Marks {
			if m.Page == i {
				calls = append(calls, mark(m.Title))
			}
		}
		calls = append(calls, endPage)
	}
	return append(calls, closeFile)
}

func TestReadEachNumberOfPages(t *testing.T) {
	var d api.Document
	for n := range api.MaxPages + 1 {
		wantRead(t, fmt.Sprint(n, " pages"), fileBy(packAll, d), d)
		d.Pages = append(d.Pages, api.Page{W: 1000 + n, H: 1 + n, Ops: []api.Op{{Kind: api.Rect, A: n}}})
	}
	wantUnread(t, "a page too many", fileBy(packAll, d))
}

func TestReadEachNumberOfMarks(t *testing.T) {
	d := api.Document{Pages: make([]api.Page, 9)}
	for i := range d.Pages {
		d.Pages[i] = api.Page{W: 1, H: 1}
	}
	for n := range api.MaxMarks + 1 {
		wantRead(t, fmt.Sprint(n, " marks"), fileBy(packAll, d), d)
		d.Marks = append(d.Marks, api.Mark{Title: fmt.Sprint(n), Page: n / 3})
	}
	wantUnread(t, "a mark too many", fileBy(packAll, d))
}

// P13: a page that has just MaxBytes bytes, and one that has more.
func TestReadFullPages(t *testing.T) {
	w := press.New(-1)
	w.Page(1, 1)
	d := api.Document{Pages: []api.Page{{W: 1, H: 1, Ops: fillPage(t, w, 0)}, {W: 2, H: 2, Ops: []api.Op{aLine}}}}
	if n := len(opsText(d.Pages[0].Ops)); n != api.MaxBytes {
		t.Fatalf("the page has %d bytes", n)
	}
	wantRead(t, "a full page", fileBy(packAll, d), d)
	wantRead(t, "a full page, packed otherwise", fileBy(packPlain, d), d)
	last := &d.Pages[0].Ops[len(d.Pages[0].Ops)-1]
	last.A = 1000000 // six digits more than 0
	wantUnread(t, "a page with too much", fileBy(packAll, d))
	last.A = -api.MaxPoint
	wantUnread(t, "a page with too much, packed otherwise", fileBy(packPlain, d))
}

// P13: bytes of an image that look like pieces of a file, as they are.
func TestReadImagesThatLookLikeFiles(t *testing.T) {
	whole := fileBy(packAll, api.Document{Title: "t", Pages: []api.Page{{W: 1, H: 1}}, Marks: []api.Mark{{Title: "m"}}})
	for _, x := range []string{"\nendstream\nendobj\n", "startxref\n0\n%%EOF\n", "\nxref\n0 1\n", "stream\n", "\nstream\n", "1 0 obj\n", "\nendobj\n2 0 obj\n1\nendobj\n", "\nEI Q\n", "<< /Title (x) >>", whole} {
		for _, n := range []int{1, 3} {
			s := strings.Repeat(x, n)
			cols, rows := 64, 1+len(s)/64
			s += strings.Repeat("\n", cols*rows-len(s))
			o := api.Op{Kind: api.Image, C: 1, D: 1, Cols: cols, Rows: rows, S: s}
			d := api.Document{Pages: []api.Page{{W: 2, H: 2, Ops: []api.Op{o, o}}, {W: 3, H: 3, Ops: []api.Op{o}}}}
			wantRead(t, fmt.Sprintf("%.20q", x), fileBy(packPlain, d), d)
			wantRead(t, fmt.Sprintf("%.20q", x), fileBy(packAll, d), d)
		}
	}
}

// P12: ways to make one document.
func TestReadIsTheSameForAllWays(t *testing.T) {
	s := someBytes(5, 63, byteRange(0, 255))
	o := api.Op{Kind: api.Image, A: -1, B: 1, C: 20000, D: 10500, Cols: 7, Rows: 9}
	want := api.Document{Title: "t", Pages: []api.Page{{W: 1, H: 2, Ops: []api.Op{wholeImage(o, s), aText}}, {W: 3, H: 4}}, Marks: []api.Mark{{Title: "m"}, {Title: "n", Page: 1}}}
	var first string
	for seed := range int64(40) {
		r := rand.New(rand.NewSource(seed))
		calls := []call{page(1, 2), image(o)}
		for rest := s; rest != ""; {
			n := min(1+r.Intn(40), len(rest))
			calls = append(calls, data(rest[:n]))
			rest = rest[n:]
		}
		if seed == 0 {
			calls = []call{page(1, 2), draw(wholeImage(o, s))}
		}
		marked := 1 + r.Intn(len(calls))
		calls = append(calls[:marked:marked], append([]call{mark("m")}, calls[marked:]...)...)
		calls = append(calls, draw(aText), endPage, page(3, 4), mark("n"), endPage, title("t"), closeFile)
		if r.Intn(2) == 0 {
			calls = append([]call{title("other"), title("t")}, calls...)
		}
		got := playFlushing(t, r, calls)
		wantRead(t, fmt.Sprint("seed ", seed), got, want)
		wantFile(t, got, want)
		if again := playFlushing(t, rand.New(rand.NewSource(seed)), calls); seed == 0 {
			first = got
		} else if unpackedPart(t, got) != unpackedPart(t, first) || unpackedPart(t, again) != unpackedPart(t, first) {
			t.Errorf("P12: seed %d: the files differ in more than what is packed", seed)
		}
	}
}

// playFlushing makes calls, and flushes here and there.
func playFlushing(t *testing.T, r *rand.Rand, calls []call) string {
	t.Helper()
	w := press.New(-1)
	for _, c := range calls {
		if r.Intn(2) == 0 && w.Flush() != api.OK {
			t.Errorf("Flush ahead of %v is refused", c)
		}
		if e := c.on(w); e != api.OK {
			t.Errorf("%v: %d", c, e)
		}
	}
	return w.Bytes()
}

// unpackedPart is the objects of a file from the font on, without the table.
func unpackedPart(t *testing.T, s string) string {
	t.Helper()
	from, to := strings.LastIndex(s, "<< /Type /Font"), strings.LastIndex(s, "\nxref\n")
	if from < 0 || to < from {
		t.Fatalf("no file: %.100q", s)
	}
	return s[from:to]
}

// P12: the same calls make the same file.
func TestSameCallsMakeTheSameFile(t *testing.T) {
	for name, d := range someDocuments() {
		var files []string
		for range 3 {
			w := press.New(-1)
			for _, c := range callsOf(d) {
				c.on(w)
			}
			files = append(files, w.Bytes())
		}
		if files[0] != files[1] || files[0] != files[2] {
			t.Errorf("%s: the files differ", name)
		}
	}
}

// P2: what is answered shares no memory with what was handed in.
func TestReadIsNewMemory(t *testing.T) {
	for name, d := range someDocuments() {
		s := strings.Clone(fileBy(packAll, d))
		got, _ := press.Read(s)
		texts := []string{got.Title}
		for _, p := range got.Pages {
			for _, o := range p.Ops {
				texts = append(texts, o.S)
			}
		}
		for _, m := range got.Marks {
			texts = append(texts, m.Title)
		}
		from := uintptr(unsafe.Pointer(unsafe.StringData(s)))
		for _, x := range texts {
			if at := uintptr(unsafe.Pointer(unsafe.StringData(x))); x != "" && at >= from && at < from+uintptr(len(s)) {
				t.Errorf("P2: %s: %q is a piece of the file", name, x)
			}
		}
	}
}

// P2: no two lists share memory, nor two answers, nor their spare room.
func TestReadListsShareNothing(t *testing.T) {
	d := someDocuments()["all it may"]
	s := fileBy(packAll, d)
	first, _ := press.Read(s)
	second, _ := press.Read(s)
	for i := range first.Pages {
		ops := first.Pages[i].Ops
		for range 5 {
			ops = append(ops, api.Op{Kind: 9})
		}
		for k := range ops {
			ops[k] = api.Op{Kind: 9}
		}
		clear(first.Pages[i].Ops)
		first.Pages[i].Ops = nil
		rest := api.Document{Title: first.Title, Pages: first.Pages[i+1:], Marks: first.Marks}
		want := api.Document{Title: d.Title, Pages: d.Pages[i+1:], Marks: d.Marks}
		if !reflect.DeepEqual(listed(rest), listed(want)) {
			t.Fatalf("P2: what was written into page %d shows elsewhere", i)
		}
	}
	pages, marks := first.Pages[:cap(first.Pages)], first.Marks[:cap(first.Marks)]
	for i := range pages {
		pages[i].W = -1
	}
	if !reflect.DeepEqual(first.Marks, d.Marks) {
		t.Error("P2: the pages and the marks share memory")
	}
	clear(marks)
	if !reflect.DeepEqual(listed(second), listed(d)) {
		t.Error("P2: two answers share memory")
	}
	wantRead(t, "again", s, d)
}

// P2: one that reads does not change another.
func TestReadInSeveralGoroutines(t *testing.T) {
	var all sync.WaitGroup
	for name, d := range someDocuments() {
		s := fileBy(packAll, d)
		for range 3 {
			all.Go(func() {
				wantRead(t, name, s, d)
				wantUnread(t, name+", cut", s[:len(s)-1])
			})
		}
	}
	all.Wait()
}
