// Package drawing: the operations of a page, each kind a type of its own.
package drawing

import (
	"press/api"
	"press/flow"
)

// Operation is a Text, a Line, a Rect or an Image.
type Operation interface {
	// Write writes the operation, with the newline behind it.
	Write(to flow.Writer) error
	// fits tells whether all that it has lies within its bounds.
	fits() bool
}

// From makes an operation of a plain one; false, if that is none.
func From(o api.Op) (Operation, bool) {
	op := ofKind(o)
	// What the kind does not use got lost on the way, so that it shows here.
	if op == nil || !op.fits() || Plain(op) != o {
		return nil, false
	}
	return op, true
}

func ofKind(o api.Op) Operation {
	switch o.Kind {
	case api.Text:
		return Text{X: o.A, Y: o.B, Size: o.C, S: o.S}
	case api.Line:
		return Line{X: o.A, Y: o.B, ToX: o.C, ToY: o.D, Width: o.E}
	case api.Rect:
		return Rect{X: o.A, Y: o.B, Width: o.C, Height: o.D, Gray: o.E}
	case api.Image:
		return Image{Frame: frameOf(o), S: o.S}
	}
	return nil
}

// Plain makes an operation plain again.
func Plain(op Operation) api.Op {
	switch op := op.(type) {
	case Text:
		return api.Op{Kind: api.Text, A: op.X, B: op.Y, C: op.Size, S: op.S}
	case Line:
		return api.Op{Kind: api.Line, A: op.X, B: op.Y, C: op.ToX, D: op.ToY, E: op.Width}
	case Rect:
		return api.Op{Kind: api.Rect, A: op.X, B: op.Y, C: op.Width, D: op.Height, E: op.Gray}
	case Image:
		o := op.Frame.plain()
		o.S = op.S
		return o
	}
	return api.Op{}
}

// Size tells how many bytes an operation has, as written.
func Size(op Operation) int {
	c := flow.NewCounter(nil)
	// A counter that hands nothing on answers no error.
	op.Write(c)
	return c.Count()
}

// areLengths tells whether all of these are lengths from least on.
func areLengths(least int, numbers ...int) bool {
	for _, n := range numbers {
		if n < least || n > api.MaxPoint {
			return false
		}
	}
	return true
}
