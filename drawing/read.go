package drawing

import (
	"iter"
	"strings"

	"press/flow"
	"press/tokens"
	"press/written"
)

// Operations goes through the operations that are written in s. False: what
// comes next is none, and nothing comes behind it.
func Operations(s string) iter.Seq2[Operation, bool] {
	return func(yield func(Operation, bool) bool) {
		text := flow.NewMatch(s)
		for text.Rest() != "" {
			op, ok := next(text)
			if !yield(op, ok) || !ok {
				return
			}
		}
	}
}

// next reads an operation and goes on behind it.
func next(text *flow.Match) (Operation, bool) {
	op := first(text.Rest())
	// It must be written just so: what first passed over shows here.
	if op == nil || !op.fits() || op.Write(text) != nil {
		return nil, false
	}
	return op, true
}

// first reads the operation with which s begins, and passes over the words
// that say nothing; nil, if there is none.
func first(s string) Operation {
	var o operands
	for end, token := range tokens.Of(s) {
		if op := o.endedBy(token, s[end:]); op != nil {
			return op
		}
		if !o.take(token) {
			return nil
		}
	}
	return nil
}

// As many numbers an image has: more than any other.
const mostNumbers = 9

// operands are an operation's numbers, in the order in which they stand, and
// its string. What does not come is 0 or empty.
type operands struct {
	numbers [mostNumbers]int
	count   int
	text    string
}

// take keeps what a token says; false, if no operation has such a one.
func (o *operands) take(token string) bool {
	ok := true
	switch c := token[0]; {
	case c == '(':
		o.text, ok = written.StringFrom(token)
	case c == '-' || c >= '0' && c <= '9':
		if o.count == mostNumbers {
			return false
		}
		o.numbers[o.count], ok = written.LengthFrom(token)
		o.count++
	}
	return ok
}

// endedBy makes the operation that a word ends; nil, if it ends none. Behind
// it stands what may be an image's bytes.
func (o *operands) endedBy(word string, behind string) Operation {
	n := o.numbers
	switch word {
	case "ET":
		return Text{X: n[1], Y: n[2], Size: n[0], S: o.text}
	case "S":
		return Line{X: n[1], Y: n[2], ToX: n[3], ToY: n[4], Width: n[0]}
	case "f":
		return Rect{X: n[1], Y: n[2], Width: n[3], Height: n[4], Gray: n[0]}
	case "ID":
		f := Frame{X: n[4], Y: n[5], Width: n[0], Height: n[3], Cols: written.Whole(n[6]), Rows: written.Whole(n[7])}
		return Image{Frame: f, S: f.bytesFrom(behind)}
	}
	return nil
}

// bytesFrom reads the image's bytes, which stand behind a blank; none, if
// there are too few.
func (f Frame) bytesFrom(s string) string {
	if !f.fits() || len(s) < 1+f.Bytes() {
		return ""
	}
	// A copy, so that an image does not keep all of a page.
	return strings.Clone(s[1 : 1+f.Bytes()])
}
