package press_test

import (
	"fmt"
	"math"
	"math/rand"
	"strings"
	"testing"

	"press/api"
	"press/press"
)

// someCalls is a file with all things in it; some calls are refused.
func someCalls() []call {
	return []call{
		title("t"), page(0, 0), page(5000, 7500), draw(aText), draw(api.Op{}), mark("first"), flush, endPage, mark("m"),
		page(1, 1), image(aFrame), data("1234"), endPage, data("123"), data("56"), draw(wholeImage(aFrame, "\x00\xff\n()\\")), endPage,
		flush, closeFile, closeFile, page(1, 1),
	}
}

// wantLimited makes calls on a writer with a limit, and holds it against one
// that has none: up to the call that sends too much all is the same.
func wantLimited(t *testing.T, limit int, calls []call) {
	t.Helper()
	w, free := press.New(limit), press.New(-1)
	failed := false
	for i, c := range calls {
		e, want := c.on(w), c.on(free)
		if failed || len(free.Bytes()) > limit {
			failed, want = true, api.ErrSink
		}
		if e != want {
			t.Errorf("limit %d, call %d, %v: %d, want %d", limit, i, c, e, want)
		}
		all := free.Bytes()
		if w.Bytes() != all[:min(limit, len(all))] {
			t.Fatalf("limit %d, call %d, %v: %s", limit, i, c, differing(w.Bytes(), all))
		}
	}
}

// P5, P6: every limit up to the whole file, and beyond.
func TestSinkWithEveryLimit(t *testing.T) {
	free := press.New(-1)
	for _, c := range someCalls() {
		c.on(free)
	}
	n := len(free.Bytes())
	for limit := range n + 3 {
		wantLimited(t, limit, someCalls())
	}
	wantLimited(t, math.MaxInt, someCalls())
}

// P5: a limit below 0 is none.
func TestSinkWithoutLimit(t *testing.T) {
	for _, limit := range []int{-1, -2, -1000, math.MinInt} {
		w, m := press.New(limit), &model{}
		for _, c := range someCalls() {
			if e, want := c.on(w), m.answer(c); e != want {
				t.Errorf("limit %d, %v: %d, want %d", limit, c, e, want)
			}
		}
		wantFile(t, w.Bytes(), m.doc)
	}
}

// P6: behind ErrSink there is nothing else, whatever the arguments and the state.
func TestBehindErrSink(t *testing.T) {
	long := strings.Repeat("x", 5000)
	wrong := []call{page(0, 0), draw(api.Op{}), image(api.Op{}), data(long), mark(""), mark(long), title(long), title("")}
	for _, ahead := range [][]call{
		{page(1, 1)},
		{flush},
		{closeFile},
		{page(1, 1), image(aFrame), data("123456"), endPage, closeFile},
	} {
		for _, limit := range []int{0, 1, 8} {
			w := press.New(limit)
			for _, c := range ahead {
				c.on(w)
			}
			for range 2 {
				for _, c := range append(callAll(), wrong...) {
					if e := c.on(w); e != api.ErrSink {
						t.Errorf("limit %d, behind %v, %v: %d", limit, ahead, c, e)
					}
				}
			}
			if w.Bytes() != "%PDF-1.7\n"[:limit] {
				t.Errorf("limit %d, behind %v: %q", limit, ahead, w.Bytes())
			}
		}
	}
}

// P6: what is refused does not go to the sink, so that it can't be ErrSink.
func TestRefusedCallsAheadOfErrSink(t *testing.T) {
	w := press.New(0)
	for _, s := range []step{
		{page(0, 1), api.ErrArg}, {draw(aLine), api.ErrState}, {endPage, api.ErrState}, {mark("m"), api.ErrState}, {data("x"), api.ErrState},
		{title(strings.Repeat("x", 101)), api.ErrArg}, {closeFile, api.ErrSink}, {page(0, 1), api.ErrSink},
	} {
		if e := s.c.on(w); e != s.want {
			t.Errorf("%v: %d, want %d", s.c, e, s.want)
		}
	}
}

// P6: a sink that is just full has taken all.
func TestSinkThatIsJustFull(t *testing.T) {
	w := press.New(9)
	for range 3 {
		if e := w.Flush(); e != api.OK || w.Bytes() != "%PDF-1.7\n" {
			t.Errorf("%d, %q", e, w.Bytes())
		}
	}
	if e := w.Page(0, 1); e != api.ErrArg {
		t.Errorf("Page that is refused: %d", e)
	}
	if e := w.Close(); e != api.ErrSink || w.Bytes() != "%PDF-1.7\n" {
		t.Errorf("Close: %d, %q", e, w.Bytes())
	}
}

// P6: what must be in the sink behind Flush and EndPage.
func TestWhatIsInTheSink(t *testing.T) {
	w := press.New(-1)
	begin := "%PDF-1.7\n"
	want := func(name string, e api.Errno) {
		t.Helper()
		if e != api.OK || w.Bytes() != begin {
			t.Errorf("%s: %d, %q, want %q", name, e, w.Bytes(), begin)
		}
	}
	want("Flush", w.Flush())
	for i := range 3 {
		w.Page(1, 1)
		begin += fmt.Sprintf("%d 0 obj\n<< /Filter /FlateDecode /Length %d 0 R >>\nstream\n", 2*i+1, 2*i+2)
		if e := w.Flush(); e != api.OK || !strings.HasPrefix(w.Bytes(), begin) {
			t.Errorf("Flush: %d, %q, want %q", e, w.Bytes(), begin)
		}
		w.Draw(aText)
		e := w.EndPage()
		if len(w.Bytes()) < len(begin) {
			t.Fatalf("EndPage: %q", w.Bytes())
		}
		_, took := inflated(t, w.Bytes()[len(begin):])
		begin = w.Bytes()[:len(begin)+took] + fmt.Sprintf("\nendstream\nendobj\n%d 0 obj\n%d\nendobj\n", 2*i+2, took)
		want("EndPage", e)
		want("Flush", w.Flush())
	}
}

// What is drawn goes to the sink while the page is open.
func TestDrawnBytesGoOnAtOnce(t *testing.T) {
	w := press.New(-1)
	w.Page(1, 1)
	o := api.Op{Kind: api.Image, C: 1, D: 1, Cols: 64, Rows: 64}
	for i := range 20 {
		before := len(w.Bytes())
		w.Draw(wholeImage(o, someBytes(int64(i), 4096, byteRange(0, 255))))
		if n := len(w.Bytes()) - before; n < 3000 {
			t.Errorf("image %d: %d bytes were sent", i, n)
		}
	}
}

// P6: the sink fills up in the midst of a Draw, or of an image's bytes.
func TestSinkFullWhileDrawing(t *testing.T) {
	o := api.Op{Kind: api.Image, C: 1, D: 1, Cols: 64, Rows: 64}
	calls := []call{page(1, 1)}
	for i := range 10 {
		o.S = someBytes(int64(i), 4096, byteRange(0, 255))
		calls = append(calls, draw(o))
		bare := o
		bare.S = ""
		calls = append(calls, image(bare), data(o.S[:2000]), data(o.S[2000:]))
	}
	calls = append(calls, endPage, closeFile)
	r := rand.New(rand.NewSource(5))
	for range 60 {
		wantLimited(t, r.Intn(90000), calls)
	}
}

// P6: Bytes tells the same till a call sends more.
func TestBytesChangesNothing(t *testing.T) {
	w, quiet := press.New(-1), press.New(-1)
	for _, c := range someCalls() {
		c.on(quiet)
		c.on(w)
		if w.Bytes() != w.Bytes() {
			t.Error("Bytes differs from Bytes")
		}
	}
	if w.Bytes() != quiet.Bytes() {
		t.Error(differing(w.Bytes(), quiet.Bytes()))
	}
}
