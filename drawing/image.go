package drawing

import (
	"strconv"

	"press/api"
	"press/flow"
)

// Frame is an image but for its bytes.
type Frame struct {
	X, Y, Width, Height, Cols, Rows int
}

// FrameFrom makes a frame of a plain image without bytes; false, if that is
// none.
func FrameFrom(o api.Op) (Frame, bool) {
	f := frameOf(o)
	if !f.fits() || f.plain() != o {
		return Frame{}, false
	}
	return f, true
}

func frameOf(o api.Op) Frame {
	return Frame{X: o.A, Y: o.B, Width: o.C, Height: o.D, Cols: o.Cols, Rows: o.Rows}
}

func (f Frame) plain() api.Op {
	return api.Op{Kind: api.Image, A: f.X, B: f.Y, C: f.Width, D: f.Height, Cols: f.Cols, Rows: f.Rows}
}

func (f Frame) fits() bool {
	return areLengths(-api.MaxPoint, f.X, f.Y) && areLengths(1, f.Width, f.Height) && isSide(f.Cols) && isSide(f.Rows)
}

func isSide(n int) bool { return n >= 1 && n <= api.MaxSide }

// Bytes tells how many bytes the image has.
func (f Frame) Bytes() int { return f.Cols * f.Rows }

// Begin writes what stands ahead of the bytes.
func (f Frame) Begin(to flow.Writer) error {
	sides := "/W " + strconv.Itoa(f.Cols) + " /H " + strconv.Itoa(f.Rows)
	return to.Write("q " + lengths(f.Width) + "0 0 " + lengths(f.Height, f.X, f.Y) + "cm BI " + sides + " /CS /G /BPC 8 ID ")
}

// EndImage writes what stands behind the bytes of any image.
func EndImage(to flow.Writer) error { return to.Write("\nEI Q\n") }

// Image is a frame with its bytes.
type Image struct {
	Frame
	S string
}

func (i Image) fits() bool { return i.Frame.fits() && len(i.S) == i.Bytes() }

// Write writes the image.
func (i Image) Write(to flow.Writer) error {
	if err := i.Begin(to); err != nil {
		return err
	}
	if err := to.Write(i.S); err != nil {
		return err
	}
	return EndImage(to)
}
