package drawing

import (
	"errors"
	"math"
	"strings"
	"testing"

	"press/api"
	"press/flow"
)

const far = api.MaxPoint

// Each with an example of its kind at whose fields the tests turn.
var examples = []struct {
	op   api.Op
	want string
}{
	{api.Op{Kind: api.Text, A: 1500, B: -20, C: 12000, S: "a(b"}, "BT /F1 12 Tf 1.5 -0.02 Td (a\\(b) Tj ET\n"},
	{api.Op{Kind: api.Text, C: 1}, "BT /F1 0.001 Tf 0 0 Td () Tj ET\n"},
	{api.Op{Kind: api.Text, A: -far, B: far, C: far, S: strings.Repeat("x", api.MaxText)}, "BT /F1 14400 Tf -14400 14400 Td (" + strings.Repeat("x", 100) + ") Tj ET\n"},
	{api.Op{Kind: api.Line, A: -500, B: 0, C: 12345, D: 100, E: 10}, "0.01 w -0.5 0 m 12.345 0.1 l S\n"},
	{api.Op{Kind: api.Line}, "0 w 0 0 m 0 0 l S\n"},
	{api.Op{Kind: api.Line, A: far, B: -far, C: -far, D: far, E: far}, "14400 w 14400 -14400 m -14400 14400 l S\n"},
	{api.Op{Kind: api.Line, A: -far, B: far, C: far, D: -far, E: 1}, "0.001 w -14400 14400 m 14400 -14400 l S\n"},
	{api.Op{Kind: api.Rect, A: -1500, B: 1, C: 1000, D: 2000, E: 250}, "0.25 g -1.5 0.001 1 2 re f\n"},
	{api.Op{Kind: api.Rect}, "0 g 0 0 0 0 re f\n"},
	{api.Op{Kind: api.Rect, A: far, B: -far, C: far, D: far, E: 1000}, "1 g 14400 -14400 14400 14400 re f\n"},
	{api.Op{Kind: api.Image, A: 7, B: 1, C: 3000, D: 2500, Cols: 2, Rows: 1, S: "\x00)"}, "q 3 0 0 2.5 0.007 0.001 cm BI /W 2 /H 1 /CS /G /BPC 8 ID \x00)\nEI Q\n"},
	{api.Op{Kind: api.Image, A: -far, B: far, C: 1, D: far, Cols: 1, Rows: 1, S: "\n"}, "q 0.001 0 0 14400 -14400 14400 cm BI /W 1 /H 1 /CS /G /BPC 8 ID \n\nEI Q\n"},
	{api.Op{Kind: api.Image, A: far, B: -far, C: far, D: 1, Cols: 64, Rows: 64, S: strings.Repeat("EI Q", 1024)}, "q 14400 0 0 0.001 14400 -14400 cm BI /W 64 /H 64 /CS /G /BPC 8 ID " + strings.Repeat("EI Q", 1024) + "\nEI Q\n"},
}

func TestOperationsWriteThemselves(t *testing.T) {
	for _, c := range examples {
		op, ok := From(c.op)
		if !ok {
			t.Errorf("%v is refused", c.op)
			continue
		}
		k := flow.NewSink(-1)
		if err := op.Write(k); err != nil || k.String() != c.want {
			t.Errorf("%v: %q, %v; want %q", c.op, k.String(), err, c.want)
		}
		if Size(op) != len(c.want) {
			t.Errorf("%v: the size %d, want %d", c.op, Size(op), len(c.want))
		}
		if got := Plain(op); got != c.op {
			t.Errorf("%v is plain %v", c.op, got)
		}
	}
}

func TestKindsAreTypes(t *testing.T) {
	for _, c := range examples {
		op, _ := From(c.op)
		kind := 0
		switch op.(type) {
		case Text:
			kind = api.Text
		case Line:
			kind = api.Line
		case Rect:
			kind = api.Rect
		case Image:
			kind = api.Image
		}
		if kind != c.op.Kind {
			t.Errorf("%v is a %T", c.op, op)
		}
	}
	if got := Plain(nil); got != (api.Op{}) {
		t.Errorf("nothing is plain %v", got)
	}
}

// fields gives pointers to the numbers of an operation, A to E, Cols and Rows.
func fields(o *api.Op) []*int {
	return []*int{&o.A, &o.B, &o.C, &o.D, &o.E, &o.Cols, &o.Rows}
}

type bounds struct{ least, most int }

// boundsOf tells them field by field, as in the document's table.
func boundsOf(kind int) []bounds {
	where, none := bounds{-far, far}, bounds{}
	switch kind {
	case api.Text:
		return []bounds{where, where, {1, far}, none, none, none, none}
	case api.Line:
		return []bounds{where, where, where, where, {0, far}, none, none}
	case api.Rect:
		return []bounds{where, where, {0, far}, {0, far}, {0, 1000}, none, none}
	}
	return []bounds{where, where, {1, far}, {1, far}, none, {1, 64}, {1, 64}}
}

func TestBoundsOfEachField(t *testing.T) {
	for _, c := range examples {
		for i, b := range boundsOf(c.op.Kind) {
			for _, n := range []int{math.MinInt, b.least - 1, b.least, b.most, b.most + 1, 1 << 32, math.MaxInt} {
				o := c.op
				*fields(&o)[i] = n
				if o.Kind == api.Image && len(o.S) != o.Cols*o.Rows && n >= b.least && n <= b.most {
					o.S = strings.Repeat("i", o.Cols*o.Rows)
				}
				op, ok := From(o)
				if want := n >= b.least && n <= b.most; ok != want || ok != (op != nil) {
					t.Errorf("kind %d, field %d is %d: %v", o.Kind, i, n, ok)
				}
			}
		}
	}
}

func TestWrongOperations(t *testing.T) {
	long := strings.Repeat("x", api.MaxText+1)
	for _, o := range []api.Op{
		{}, {Kind: 5}, {Kind: -1}, {Kind: math.MaxInt}, {Kind: math.MinInt},
		{Kind: api.Text, C: 1, S: long},
		{Kind: api.Line, S: "x"},
		{Kind: api.Rect, S: "x"},
		{Kind: api.Image, C: 1, D: 1, Cols: 1, Rows: 1},
		{Kind: api.Image, C: 1, D: 1, Cols: 2, Rows: 3, S: "12345"},
		{Kind: api.Image, C: 1, D: 1, Cols: 2, Rows: 3, S: "1234567"},
		{Kind: api.Image, C: 1, D: 1, Cols: -1, Rows: -1, S: "x"},
		{Kind: api.Image, C: 1, D: 1, Cols: 1 << 32, Rows: 1 << 32},
		{Kind: api.Image, C: 1, D: 1},
	} {
		if op, ok := From(o); ok || op != nil {
			t.Errorf("%v is taken as %v", o, op)
		}
	}
}

func TestFrames(t *testing.T) {
	for _, c := range examples {
		o := c.op
		o.S = ""
		f, ok := FrameFrom(o)
		if ok != (o.Kind == api.Image) {
			t.Errorf("%v as a frame: %v", o, ok)
		}
		if !ok {
			continue
		}
		k := flow.NewSink(-1)
		if f.Begin(k) != nil || k.Write(c.op.S) != nil || EndImage(k) != nil || k.String() != c.want {
			t.Errorf("%v: %q, want %q", o, k.String(), c.want)
		}
		if f.Bytes() != len(c.op.S) {
			t.Errorf("%v: %d bytes", o, f.Bytes())
		}
		if f, ok := FrameFrom(c.op); ok || f != (Frame{}) {
			t.Errorf("%v, which has its bytes, is taken as a frame", c.op)
		}
	}
}

func TestBoundsOfFrames(t *testing.T) {
	for i, b := range boundsOf(api.Image) {
		for _, n := range []int{math.MinInt, b.least - 1, b.least, b.most, b.most + 1, math.MaxInt} {
			o := api.Op{Kind: api.Image, C: 1, D: 1, Cols: 1, Rows: 1}
			*fields(&o)[i] = n
			if _, ok := FrameFrom(o); ok != (n >= b.least && n <= b.most) {
				t.Errorf("field %d is %d: %v", i, n, ok)
			}
		}
	}
}

// stopped refuses all from a call on, and counts.
type stopped struct{ takes, calls int }

func (s *stopped) Write(string) error {
	s.calls++
	if s.calls > s.takes {
		return flow.ErrFull
	}
	return nil
}

func TestImageSendsNothingBehindAnError(t *testing.T) {
	op, _ := From(api.Op{Kind: api.Image, C: 1, D: 1, Cols: 1, Rows: 1, S: "x"})
	for takes := range 4 {
		s := &stopped{takes: takes}
		err := op.Write(s)
		if s.calls != min(takes+1, 3) || (takes < 3) != errors.Is(err, flow.ErrFull) {
			t.Errorf("%d are taken: %d calls, %v", takes, s.calls, err)
		}
	}
}
