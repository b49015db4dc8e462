package drawing

import (
	"press/api"
	"press/flow"
	"press/written"
)

const mostGray = 1000

// Text is a line of text.
type Text struct {
	X, Y, Size int
	S          string
}

func (t Text) fits() bool {
	return areLengths(-api.MaxPoint, t.X, t.Y) && areLengths(1, t.Size) && len(t.S) <= api.MaxText
}

// Write writes the text.
func (t Text) Write(to flow.Writer) error {
	return to.Write("BT /F1 " + lengths(t.Size) + "Tf " + lengths(t.X, t.Y) + "Td " + written.String(t.S) + " Tj ET\n")
}

// Line is a straight line.
type Line struct {
	X, Y, ToX, ToY, Width int
}

func (l Line) fits() bool {
	return areLengths(-api.MaxPoint, l.X, l.Y, l.ToX, l.ToY) && areLengths(0, l.Width)
}

// Write writes the line.
func (l Line) Write(to flow.Writer) error {
	return to.Write(lengths(l.Width) + "w " + lengths(l.X, l.Y) + "m " + lengths(l.ToX, l.ToY) + "l S\n")
}

// Rect is a rectangle filled with a gray.
type Rect struct {
	X, Y, Width, Height, Gray int
}

func (r Rect) fits() bool {
	return areLengths(-api.MaxPoint, r.X, r.Y) && areLengths(0, r.Width, r.Height, r.Gray) && r.Gray <= mostGray
}

// Write writes the rectangle.
func (r Rect) Write(to flow.Writer) error {
	return to.Write(lengths(r.Gray) + "g " + lengths(r.X, r.Y, r.Width, r.Height) + "re f\n")
}

// lengths writes numbers with a blank behind each.
func lengths(numbers ...int) string {
	s := ""
	for _, n := range numbers {
		s += written.Length(n) + " "
	}
	return s
}
