package press_test

import (
	"fmt"
	"math"
	"strings"
	"testing"

	"press/api"
	"press/press"
)

// step is a call and what it answers.
type step struct {
	c    call
	want api.Errno
}

// page, draw and the others make calls short to write down.
func page(width int, height int) call { return call{name: "Page", a: width, b: height} }
func draw(o api.Op) call              { return call{name: "Draw", o: o} }
func image(o api.Op) call             { return call{name: "Image", o: o} }
func data(s string) call              { return call{name: "Data", s: s} }
func mark(title string) call          { return call{name: "Mark", s: title} }
func title(title string) call         { return call{name: "Title", s: title} }
func plain(name string) call          { return call{name: name} }

var (
	flush, endPage, closeFile = plain("Flush"), plain("EndPage"), plain("Close")
	aLine                     = api.Op{Kind: api.Line, A: 1, B: -2, C: 3000, D: 40, E: 500}
	aText                     = api.Op{Kind: api.Text, A: 1500, B: -20, C: 12000, S: "a(b"}
	aFrame                    = api.Op{Kind: api.Image, A: 5, B: 6, C: 7, D: 8, Cols: 3, Rows: 2}
)

// wholeImage is an image that has all its bytes.
func wholeImage(o api.Op, s string) api.Op {
	o.S = s
	return o
}

// playSteps makes the calls, holds their answers against those that are wanted,
// and against the model's; what is refused sends nothing.
func playSteps(t *testing.T, w *press.Writer, m *model, steps []step) {
	t.Helper()
	for i, s := range steps {
		before := w.Bytes()
		if e := m.answer(s.c); e != s.want {
			t.Fatalf("call %d, %v: the model answers %d, the test wants %d", i, s.c, e, s.want)
		}
		if e := s.c.on(w); e != s.want {
			t.Errorf("call %d, %v: %d, want %d", i, s.c, e, s.want)
		}
		after := w.Bytes()
		if !strings.HasPrefix(after, before) || s.want != api.OK && after != before {
			t.Errorf("call %d, %v: the sink had %d bytes, and then %d", i, s.c, len(before), len(after))
		}
	}
}

// wantSteps is playSteps on a new writer, which is closed behind them and whose
// file is read back.
func wantSteps(t *testing.T, steps []step) {
	t.Helper()
	w, m := press.New(-1), &model{}
	playSteps(t, w, m, steps)
	if !m.closed {
		playSteps(t, w, m, []step{{closeFile, api.OK}})
	}
	wantFile(t, w.Bytes(), m.doc)
	wantRead(t, "the file of these calls", w.Bytes(), m.doc)
}

func oks(calls ...call) []step {
	var steps []step
	for _, c := range calls {
		steps = append(steps, step{c, api.OK})
	}
	return steps
}

func TestWriterExamples(t *testing.T) {
	wantSteps(t, []step{
		{page(0, 5), api.ErrArg}, {draw(aLine), api.ErrState}, {page(5000, 7500), api.OK}, {page(1, 1), api.ErrState},
		{endPage, api.OK}, {endPage, api.ErrState}, {closeFile, api.OK}, {closeFile, api.ErrState},
	})
	w := press.New(5)
	first := w.Page(1, 1)
	if e := w.EndPage(); e != api.ErrSink || w.Bytes() != "%PDF-" || first != api.OK && first != api.ErrSink {
		t.Errorf("%d, %d, %q", first, e, w.Bytes())
	}
}

// P11: a file that stands here as it is, but for what is packed.
func TestFileOfAllThings(t *testing.T) {
	w := press.New(-1)
	for _, c := range []call{page(5000, 7500), draw(aText), mark("a)"), endPage, title("t"), closeFile} {
		if e := c.on(w); e != api.OK {
			t.Errorf("%v: %d", c, e)
		}
	}
	packed := press.Pack([]string{"BT /F1 12 Tf 1.5 -0.02 Td (a\\(b) Tj ET\n"})
	want := "%PDF-1.7\n1 0 obj\n<< /Filter /FlateDecode /Length 2 0 R >>\nstream\n" + packed + "\nendstream\nendobj\n" +
		"2 0 obj\n" + fmt.Sprint(len(packed)) + "\nendobj\n" +
		"3 0 obj\n<< /Type /Font /Subtype /Type1 /BaseFont /Helvetica >>\nendobj\n" +
		"4 0 obj\n<< /Type /Page /Parent 5 0 R /MediaBox [0 0 5 7.5] /Contents 1 0 R /Resources << /Font << /F1 3 0 R >> >> >>\nendobj\n" +
		"5 0 obj\n<< /Type /Pages /Kids [4 0 R] /Count 1 >>\nendobj\n" +
		"6 0 obj\n<< /Type /Outlines /First 7 0 R /Last 7 0 R /Count 1 >>\nendobj\n" +
		"7 0 obj\n<< /Title (a\\)) /Parent 6 0 R /Dest [4 0 R /Fit] >>\nendobj\n" +
		"8 0 obj\n<< /Title (t) >>\nendobj\n" +
		"9 0 obj\n<< /Type /Catalog /Pages 5 0 R /Outlines 6 0 R >>\nendobj\n"
	at := len(want)
	table := "xref\n0 10\n0000000000 65535 f \n"
	for i := 1; i <= 9; i++ {
		table += fmt.Sprintf("%010d 00000 n \n", strings.Index(want, fmt.Sprintf("\n%d 0 obj", i))+1)
	}
	want += table + "trailer\n<< /Size 10 /Root 9 0 R /Info 8 0 R >>\nstartxref\n" + fmt.Sprint(at) + "\n%%EOF\n"
	if w.Bytes() != want {
		t.Error(differing(w.Bytes(), want))
	}
}

// P7, P11: files of any number of pages, with marks on the first and the last.
func TestFileOfManyPages(t *testing.T) {
	for n := range api.MaxPages + 1 {
		var steps []step
		for i := range n {
			steps = append(steps, oks(page(i+1, 1000*i+1), draw(api.Op{Kind: api.Line, A: i}))...)
			if i == 0 || i == n-1 {
				steps = append(steps, oks(mark(fmt.Sprint("page ", i)), mark("again"))...)
			}
			steps = append(steps, oks(endPage)...)
		}
		if n == api.MaxPages {
			last := len(steps) - 1
			steps = append(steps[:last], step{page(1, 1), api.ErrState}, step{endPage, api.OK}, step{page(1, 1), api.ErrLimit},
				step{page(0, 1), api.ErrArg}, step{flush, api.OK}, step{closeFile, api.OK}, step{page(1, 1), api.ErrState})
		}
		wantSteps(t, steps)
	}
}

func TestPageSizes(t *testing.T) {
	w, m := press.New(-1), &model{}
	for _, n := range []int{math.MinInt, -1, 0, api.MaxPoint + 1, 1<<32 + 1, math.MaxInt} {
		playSteps(t, w, m, []step{{page(n, 1), api.ErrArg}, {page(1, n), api.ErrArg}, {endPage, api.ErrState}})
	}
	for _, n := range []int{1, 999, 1000, 12345, api.MaxPoint} {
		playSteps(t, w, m, oks(page(n, 1), endPage, page(1, n), endPage))
	}
	playSteps(t, w, m, oks(closeFile))
	wantFile(t, w.Bytes(), m.doc)
}

// P7 to P11: which calls may be made when. In each state every call once.
func TestCallsInEveryState(t *testing.T) {
	small := api.Op{Kind: api.Image, C: 1, D: 1, Cols: 1, Rows: 2}
	states := map[string]struct {
		ahead []call
		fine  string
	}{
		"at first":               {nil, "Page Title Flush Close"},
		"with a page open":       {[]call{page(1, 1)}, "Draw Image Mark Title Flush EndPage"},
		"with an image open":     {[]call{page(1, 1), image(small)}, "Data Mark Title Flush"},
		"with some of an image":  {[]call{page(1, 1), image(small), data("a")}, "Data Mark Title Flush"},
		"behind an image":        {[]call{page(1, 1), image(small), data("ab")}, "Draw Image Mark Title Flush EndPage"},
		"behind a page":          {[]call{page(1, 1), endPage}, "Page Title Flush Close"},
		"closed":                 {[]call{closeFile}, ""},
		"closed behind a page":   {[]call{page(1, 1), mark("m"), endPage, title("t"), closeFile}, ""},
		"flushed":                {[]call{flush}, "Page Title Flush Close"},
		"flushed with a page":    {[]call{page(1, 1), flush}, "Draw Image Mark Title Flush EndPage"},
		"flushed with an image":  {[]call{page(1, 1), image(small), flush}, "Data Mark Title Flush"},
		"flushed behind a page":  {[]call{page(1, 1), endPage, flush}, "Page Title Flush Close"},
		"with a page, and drawn": {[]call{page(1, 1), draw(aLine)}, "Draw Image Mark Title Flush EndPage"},
	}
	for name, st := range states {
		for _, c := range callAll() {
			w, m := press.New(-1), &model{}
			playSteps(t, w, m, oks(st.ahead...))
			want := api.ErrState
			if strings.Contains(" "+st.fine+" ", " "+c.name+" ") {
				want = api.OK
			}
			before := w.Bytes()
			if e := c.on(w); e != want {
				t.Errorf("%s, %v answers %d, want %d", name, c, e, want)
			}
			if want != api.OK && w.Bytes() != before {
				t.Errorf("%s, %v, refused, sends", name, c)
			}
		}
	}
}

// P1: a wrong argument counts only where the state lets it.
func TestOrderOfErrors(t *testing.T) {
	bad := api.Op{Kind: 9}
	long := strings.Repeat("x", api.MaxText+1)
	wantSteps(t, []step{
		{draw(bad), api.ErrState}, {image(bad), api.ErrState}, {data(long), api.ErrState}, {mark(""), api.ErrState}, {mark(long), api.ErrState},
		{title(long), api.ErrArg},
		{page(1, 1), api.OK}, {page(0, 0), api.ErrState}, {draw(bad), api.ErrArg}, {image(bad), api.ErrArg}, {mark(""), api.ErrArg},
		{image(aFrame), api.OK}, {draw(bad), api.ErrState}, {image(bad), api.ErrState}, {data(long), api.ErrArg}, {mark(long), api.ErrArg},
		{data("123456"), api.OK}, {endPage, api.OK}, {mark(""), api.ErrState}, {data(long), api.ErrState},
		{closeFile, api.OK}, {page(0, 0), api.ErrState}, {title(long), api.ErrState}, {draw(bad), api.ErrState}, {mark(long), api.ErrState},
	})
}

// P8: every kind, at the edges that the document names.
func TestDraw(t *testing.T) {
	const far = api.MaxPoint
	steps := oks(page(1000, 1000))
	for _, o := range []api.Op{
		{Kind: 1, C: 1}, {Kind: 1, A: -far, B: far, C: far, S: strings.Repeat("\\", 100)}, aText,
		{Kind: 1, C: 1000, S: "\x00\x1f ()~\x7f\x80\xff\\"},
		{Kind: 2}, {Kind: 2, A: -far, B: far, C: far, D: -far, E: far}, aLine,
		{Kind: 3}, {Kind: 3, A: far, B: -far, C: far, D: far, E: 1000}, {Kind: 3, E: 999},
		wholeImage(aFrame, "\nEI Q\n"), {Kind: 4, C: far, D: far, Cols: 64, Rows: 64, S: strings.Repeat("\x00", 4096)},
	} {
		steps = append(steps, step{draw(o), api.OK})
	}
	for _, o := range []api.Op{
		{}, {Kind: -1}, {Kind: 5}, {Kind: 1}, {Kind: 1, C: far + 1}, {Kind: 1, C: 1, A: far + 1}, {Kind: 1, C: 1, B: -far - 1},
		{Kind: 1, C: 1, D: 1}, {Kind: 1, C: 1, E: 1}, {Kind: 1, C: 1, Cols: 1}, {Kind: 1, C: 1, Rows: -1}, {Kind: 1, C: 1, S: strings.Repeat("x", 101)},
		{Kind: 2, A: -far - 1}, {Kind: 2, D: far + 1}, {Kind: 2, E: -1}, {Kind: 2, E: far + 1}, {Kind: 2, S: "x"}, {Kind: 2, C: math.MinInt},
		{Kind: 3, C: -1}, {Kind: 3, D: -1}, {Kind: 3, E: -1}, {Kind: 3, E: 1001}, {Kind: 3, Cols: 1}, {Kind: 3, S: "\x00"},
		aFrame, wholeImage(aFrame, "12345"), wholeImage(aFrame, "1234567"), {Kind: 4, C: 1, D: 1},
		{Kind: 4, D: 1, Cols: 1, Rows: 1, S: "x"}, {Kind: 4, C: 1, Cols: 1, Rows: 1, S: "x"}, {Kind: 4, C: 1, D: 1, E: 1, Cols: 1, Rows: 1, S: "x"},
		{Kind: 4, C: 1, D: 1, Cols: 65, Rows: 1, S: strings.Repeat("x", 65)}, {Kind: 4, C: 1, D: 1, Cols: -2, Rows: -2, S: "1234"},
		{Kind: 4, C: 1, D: 1, Cols: math.MinInt, Rows: 2},
	} {
		steps = append(steps, step{draw(o), api.ErrArg})
	}
	wantSteps(t, append(steps, oks(draw(aLine), endPage)...))
}

// P9: how an image's bytes come does not change the file.
func TestImageInPieces(t *testing.T) {
	o := api.Op{Kind: api.Image, A: -1, B: 1, C: 20000, D: 10500, Cols: 7, Rows: 9}
	s := someBytes(1, 63, byteRange(0, 255))
	for n := 1; n <= 64; n++ {
		steps := oks(page(1, 1), image(o), data(""))
		for rest := s; rest != ""; {
			k := min(n, len(rest))
			steps = append(steps, step{data(rest + "x"), api.ErrArg}, step{flush, api.OK}, step{data(rest[:k]), api.OK})
			rest = rest[k:]
		}
		steps = append(steps, step{data(""), api.ErrState})
		wantSteps(t, append(steps, oks(draw(aLine), image(o), data(s), endPage)...))
	}
}

func TestImageArguments(t *testing.T) {
	const far = api.MaxPoint
	steps := oks(page(1, 1))
	change := func(f func(o *api.Op)) {
		o := aFrame
		f(&o)
		steps = append(steps, step{image(o), api.ErrArg}, step{data("x"), api.ErrState})
	}
	for _, n := range []int{math.MinInt, -far - 1, far + 1, math.MaxInt} {
		change(func(o *api.Op) { o.A = n })
		change(func(o *api.Op) { o.B = n })
		change(func(o *api.Op) { o.C = n })
		change(func(o *api.Op) { o.D = n })
		change(func(o *api.Op) { o.E = n })
		change(func(o *api.Op) { o.Cols = n })
		change(func(o *api.Op) { o.Rows = n })
		change(func(o *api.Op) { o.Kind = n })
	}
	change(func(o *api.Op) { o.C = 0 })
	change(func(o *api.Op) { o.D = 0 })
	change(func(o *api.Op) { o.E = 1 })
	change(func(o *api.Op) { o.Cols = 0 })
	change(func(o *api.Op) { o.Rows = 65 })
	change(func(o *api.Op) { o.Kind = 3 })
	change(func(o *api.Op) { o.S = "x" })
	change(func(o *api.Op) { o.S = "123456" })
	for _, o := range []api.Op{aText, aLine, {}, {Kind: 3}} {
		steps = append(steps, step{image(o), api.ErrArg})
	}
	wantSteps(t, append(steps, oks(image(aFrame), data("123456"), endPage)...))
}

// fillPage draws on a page till just left bytes may still come.
func fillPage(t *testing.T, w *press.Writer, left int) []api.Op {
	t.Helper()
	big := api.Op{Kind: api.Image, C: 1, D: 1, Cols: 64, Rows: 64, S: strings.Repeat("abcd", 1024)}
	text := api.Op{Kind: api.Text, C: 1000}
	bare := len(opText(text))
	var ops []api.Op
	for room := api.MaxBytes; room > left; {
		o := big
		if extra := room - left; extra < len(opText(big))+2*bare {
			o = text
			o.S = strings.Repeat("y", min(api.MaxText, extra-bare))
			// What is left must be none, or enough for one text more.
			if after := extra - len(opText(o)); after > 0 && after < bare {
				o.S = o.S[:len(o.S)-bare]
			}
		}
		if e := w.Draw(o); e != api.OK {
			t.Fatalf("with room for %d: %d", room, e)
		}
		ops = append(ops, o)
		room -= len(opText(o))
	}
	return ops
}

// P8, P9: what a page's operations may have, as written, to the byte.
func TestPageIsFull(t *testing.T) {
	line := api.Op{Kind: api.Line}
	size := len(opText(line))
	whole := wholeImage(aFrame, "123456")
	imageSize := len(opText(whole))
	wrong := api.Op{Kind: 9}
	for _, c := range []struct {
		left int
		c    call
		want api.Errno
	}{
		{size, draw(line), api.OK}, {size - 1, draw(line), api.ErrLimit}, {0, draw(line), api.ErrLimit},
		{imageSize, draw(whole), api.OK}, {imageSize - 1, draw(whole), api.ErrLimit},
		{imageSize, image(aFrame), api.OK}, {imageSize - 1, image(aFrame), api.ErrLimit}, {imageSize - 6, image(aFrame), api.ErrLimit},
		{0, image(aFrame), api.ErrLimit}, {0, draw(wrong), api.ErrArg}, {0, image(wrong), api.ErrArg}, {0, mark("m"), api.OK},
	} {
		w := press.New(-1)
		w.Page(1, 1)
		p := api.Page{W: 1, H: 1, Ops: fillPage(t, w, c.left)}
		before := w.Bytes()
		if e := c.c.on(w); e != c.want {
			t.Errorf("room for %d, %v: %d, want %d", c.left, c.c, e, c.want)
		}
		if c.want != api.OK && (w.Bytes() != before || w.Data("1") != api.ErrState) {
			t.Errorf("room for %d, %v: the call that is refused does something", c.left, c.c)
		}
		doc := api.Document{Pages: []api.Page{p, {W: 1, H: 1, Ops: []api.Op{whole}}}}
		switch {
		case c.want == api.OK && c.c.name == "Mark":
			doc.Marks = []api.Mark{{Title: "m"}}
		case c.want == api.OK && c.c.name == "Image":
			w.Data(whole.S)
			doc.Pages[0].Ops = append(p.Ops, whole)
		case c.want == api.OK:
			doc.Pages[0].Ops = append(p.Ops, c.c.o)
		}
		// The next page begins anew.
		for _, c := range []call{endPage, page(1, 1), draw(whole), endPage, closeFile} {
			if e := c.on(w); e != api.OK {
				t.Errorf("%v: %d", c, e)
			}
		}
		wantFile(t, w.Bytes(), doc)
	}
}

// P10.
func TestMarks(t *testing.T) {
	long := strings.Repeat("\xff", api.MaxText)
	steps := []step{{mark("m"), api.ErrState}, {page(1, 1), api.OK}, {mark(""), api.ErrArg}, {mark(long + "x"), api.ErrArg}, {mark("("), api.OK}, {endPage, api.OK},
		{mark("m"), api.ErrState}, {page(1, 1), api.OK}, {endPage, api.OK}, {page(1, 1), api.OK}}
	for i := 1; i < api.MaxMarks; i++ {
		steps = append(steps, step{mark(long[:5*i]), api.OK})
	}
	steps = append(steps, []step{{mark("m"), api.ErrLimit}, {mark(""), api.ErrArg}, {mark(long + "x"), api.ErrArg}, {endPage, api.OK}, {page(1, 1), api.OK}, {mark("m"), api.ErrLimit}, {endPage, api.OK}}...)
	wantSteps(t, steps)
	wantSteps(t, oks(page(1, 1), mark(long), endPage))
	wantSteps(t, oks(page(1, 1), mark("\x00"), image(aFrame), mark("within an image"), data("123456"), mark("behind it"), endPage))
}

// P10: the last title counts, also if it is empty.
func TestTitles(t *testing.T) {
	long := strings.Repeat("\x80", api.MaxText)
	wantSteps(t, oks(title("a"), title("b(")))
	wantSteps(t, oks(title("a"), page(1, 1), title(""), endPage))
	wantSteps(t, oks(page(1, 1), image(aFrame), title("within"), data("123456"), endPage))
	wantSteps(t, []step{{title(long), api.OK}, {title(long + "x"), api.ErrArg}, {closeFile, api.OK}, {title("x"), api.ErrState}, {title(long + "x"), api.ErrState}})
	wantSteps(t, []step{{title(strings.Repeat("x", 1<<20)), api.ErrArg}})
}

// P1: a writer that there is not, and one that New did not make.
func TestNoWriter(t *testing.T) {
	for _, w := range []*press.Writer{nil, {}} {
		for range 2 {
			for _, c := range callAll() {
				if e := c.on(w); e != api.ErrState {
					t.Errorf("%v answers %d", c, e)
				}
			}
			if s := w.Bytes(); s != "" {
				t.Errorf("Bytes answers %q", s)
			}
		}
		wrong := []call{page(0, 0), draw(api.Op{}), image(api.Op{}), mark(""), title(strings.Repeat("x", 101))}
		for _, c := range wrong {
			if e := c.on(w); e != api.ErrState {
				t.Errorf("%v answers %d", c, e)
			}
		}
	}
}

// P1: a call that is refused changes nothing: with such calls between all
// others the file is the same.
func TestRefusedCallsChangeNothing(t *testing.T) {
	long := strings.Repeat("x", 5000)
	refused := []call{page(0, 1), page(-1, -1), draw(api.Op{}), draw(api.Op{Kind: api.Text, S: long}), image(aLine), data(long), mark(""), mark(long), title(long)}
	right := []call{page(1, 1), draw(aText), image(aFrame), mark("m"), data("1234"), data("56"), draw(aLine), endPage, title("t"), page(2, 2), endPage, closeFile}
	w, other, m := press.New(-1), press.New(-1), &model{}
	for _, c := range right {
		for _, no := range refused {
			if e := no.on(w); e != api.ErrArg && e != api.ErrState || e != m.answer(no) {
				t.Errorf("%v ahead of %v: %d", no, c, e)
			}
		}
		if e, e2, e3 := c.on(w), c.on(other), m.answer(c); e != api.OK || e2 != api.OK || e3 != api.OK {
			t.Errorf("%v: %d, %d, %d", c, e, e2, e3)
		}
		if w.Bytes() != other.Bytes() {
			t.Fatalf("behind %v: %s", c, differing(w.Bytes(), other.Bytes()))
		}
	}
	wantFile(t, w.Bytes(), m.doc)
}

// P2: writers that take turns, and each on its own.
func TestWritersDoNotChangeEachOther(t *testing.T) {
	calls := func(i int) []call {
		o := aText
		o.S = strings.Repeat(string(rune('a'+i)), 10*i)
		return []call{page(i+1, 1), draw(o), mark(o.S + "m"), image(aFrame), data("123"), data("456"), draw(aLine), endPage, title(o.S), page(1, i+1), endPage, closeFile}
	}
	const n = 5
	var writers []*press.Writer
	for range n {
		writers = append(writers, press.New(-1))
	}
	for k := range calls(0) {
		for i, w := range writers {
			if e := calls(i)[k].on(w); e != api.OK {
				t.Errorf("%v: %d", calls(i)[k], e)
			}
		}
	}
	for i, w := range writers {
		alone := press.New(-1)
		for _, c := range calls(i) {
			c.on(alone)
		}
		if w.Bytes() != alone.Bytes() {
			t.Errorf("writer %d: %s", i, differing(w.Bytes(), alone.Bytes()))
		}
	}
}
