package press_test

import (
	"math"
	"math/rand"
	"strings"
	"testing"

	"press/api"
	"press/press"
)

// anyOf picks one of some numbers.
func anyOf(r *rand.Rand, numbers ...int) int { return numbers[r.Intn(len(numbers))] }

// anyLength is a length, mostly: one that is not is rare.
func anyLength(r *rand.Rand, least int) int {
	if r.Intn(40) == 0 {
		return anyOf(r, least-1, api.MaxPoint+1, math.MinInt, math.MaxInt, -api.MaxPoint-1)
	}
	if r.Intn(3) == 0 {
		return anyOf(r, least, least+1, 1000, 500, 12345, api.MaxPoint)
	}
	return least + r.Intn(30000)
}

func anyText(r *rand.Rand) string {
	n := anyOf(r, 0, 1, 3, 10, api.MaxText-1, api.MaxText)
	if r.Intn(30) == 0 {
		n = api.MaxText + 1
	}
	return someBytes(r.Int63(), n, "()\\ abc\n\x00\x1f\x7e\x7f\x80\xff")
}

func anyOp(r *rand.Rand) api.Op {
	o := api.Op{Kind: 1 + r.Intn(4)}
	where := -api.MaxPoint
	o.A, o.B = anyLength(r, where), anyLength(r, where)
	switch o.Kind {
	case api.Text:
		o.C, o.S = anyLength(r, 1), anyText(r)
	case api.Line:
		o.C, o.D, o.E = anyLength(r, where), anyLength(r, where), anyLength(r, 0)
	case api.Rect:
		o.C, o.D, o.E = anyLength(r, 0), anyLength(r, 0), anyOf(r, 0, 1, 500, 1000)
	case api.Image:
		o.C, o.D = anyLength(r, 1), anyLength(r, 1)
		o.Cols, o.Rows = anyOf(r, 1, 2, 5, 64), anyOf(r, 1, 3, 64)
		o.S = someBytes(r.Int63(), o.Cols*o.Rows, "abc\x00\xff\n")
	}
	if r.Intn(15) == 0 {
		fields := []*int{&o.Kind, &o.C, &o.D, &o.E, &o.Cols, &o.Rows}
		*fields[r.Intn(len(fields))] = anyOf(r, -1, 0, 1, 2, 5, 1001, math.MaxInt, math.MinInt)
	}
	if r.Intn(20) == 0 {
		o.S += "x"
	}
	return o
}

// anyCall is a call that often, but not always, may be made now.
func anyCall(r *rand.Rand, m *model) call {
	if r.Intn(8) == 0 {
		return callAll()[r.Intn(len(callAll()))]
	}
	if m.image != nil {
		return data(strings.Repeat("d", r.Intn(m.lacking+2)))
	}
	if !m.open {
		switch r.Intn(12) {
		case 0:
			return title(anyText(r))
		case 1:
			return flush
		}
		return page(anyLength(r, 1), anyLength(r, 1))
	}
	switch r.Intn(12) {
	case 0, 1:
		return endPage
	case 2:
		return mark(anyText(r))
	case 3:
		return title(anyText(r))
	case 4, 5:
		o := anyOp(r)
		if o.Kind == api.Image && r.Intn(10) > 0 {
			o.S = ""
		}
		return image(o)
	}
	return draw(anyOp(r))
}

// P1, P5 to P13: any calls, held against the model; and the same calls with a
// limit, held against those without.
func TestAnyCalls(t *testing.T) {
	for seed := range int64(300) {
		r := rand.New(rand.NewSource(seed))
		w, m := press.New(-1), &model{}
		var calls []call
		for range 20 + r.Intn(200) {
			c := anyCall(r, m)
			if c.name == "Close" && r.Intn(10) > 0 {
				continue
			}
			calls = append(calls, c)
			before := w.Bytes()
			e, want := c.on(w), m.answer(c)
			if e != want {
				t.Fatalf("seed %d, %v: %d, want %d", seed, c, e, want)
			}
			if e != api.OK && w.Bytes() != before {
				t.Fatalf("seed %d, %v, refused, sends", seed, c)
			}
		}
		calls = append(calls, closing(t, w, m)...)
		wantFile(t, w.Bytes(), m.doc)
		wantRead(t, "the file of these calls", w.Bytes(), m.doc)
		for range 4 {
			wantLimited(t, r.Intn(len(w.Bytes())+2), calls)
		}
	}
}

// closing makes the calls that are still missing for a file.
func closing(t *testing.T, w *press.Writer, m *model) []call {
	t.Helper()
	var calls []call
	for !m.closed {
		c := closeFile
		switch {
		case m.image != nil:
			c = data(strings.Repeat("e", m.lacking))
		case m.open:
			c = endPage
		}
		calls = append(calls, c)
		if e, want := c.on(w), m.answer(c); e != want || e != api.OK {
			t.Fatalf("%v: %d, want %d", c, e, want)
		}
	}
	return calls
}
