package file

import (
	"errors"
	"math"
	"strings"
	"testing"

	"press/api"
	"press/flow"
	"press/packing"
)

// A page that is packed already stands in the file as one that is drawn.
func TestPackedPages(t *testing.T) {
	drawn, packed := flow.NewSink(-1), flow.NewSink(-1)
	f, g := New(drawn), New(packed)
	for i, s := range []string{"some text", "", strings.Repeat("x", 70000)} {
		p, _ := f.BeginPage(1+i, 1000)
		p.Write(s)
		p.End()
		if err := g.PackedPage(1+i, 1000, packing.Pack([]string{s})); err != nil {
			t.Error(err)
		}
		if g.Pages() != i+1 {
			t.Errorf("%d pages", g.Pages())
		}
	}
	marks := []api.Mark{{Title: "m", Page: 2}}
	f.End("t", marks)
	g.End("t", marks)
	if drawn.String() != packed.String() {
		t.Error("the files differ")
	}
}

func TestNothingIsSentBehindAnErrorOfPackedPages(t *testing.T) {
	all := &stopped{takes: 1 << 30}
	New(all).PackedPage(1, 1, "packed")
	for takes := range all.calls {
		s := &stopped{takes: takes}
		if err := New(s).PackedPage(1, 1, "packed"); !errors.Is(err, flow.ErrFull) || s.calls != takes+1 {
			t.Errorf("%d are taken: %d calls, %v", takes, s.calls, err)
		}
	}
}

func TestBounds(t *testing.T) {
	for n, want := range map[int]bool{math.MinInt: false, -1: false, 0: false, 1: true, 14400000: true, 14400001: false, math.MaxInt: false} {
		if IsSide(n) != want {
			t.Errorf("a side of %d: %v", n, !want)
		}
	}
	for n, want := range map[int][2]bool{0: {true, false}, 1: {true, true}, 100: {true, true}, 101: {false, false}} {
		s := strings.Repeat("x", n)
		if got := [2]bool{IsTitle(s), IsMark(s)}; got != want {
			t.Errorf("a title of %d bytes: %v", n, got)
		}
	}
}

func TestTenDigits(t *testing.T) {
	for n, want := range map[int]string{0: "0000000000", 9: "0000000009", 1234567890: "1234567890", 12345678901: "12345678901"} {
		if got := tenDigits(n); got != want {
			t.Errorf("%d: %q", n, got)
		}
	}
}
