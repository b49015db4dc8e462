package reading

import (
	"iter"
	"slices"
	"strconv"
	"strings"

	"press/api"
	"press/drawing"
	"press/file"
	"press/flow"
	"press/packing"
	"press/written"
)

// layout is what the objects of a file say, but for what is packed. All other
// objects follow from this.
type layout struct {
	title    string
	sheets   []sheet
	contents []string
	marks    []api.Mark
}

// sheet is a page without what is drawn on it.
type sheet struct {
	// Of its object, as marks name it.
	number        int
	width, height int
}

// layoutOf reads a layout; false, if no document has such a one. Whether s is
// a file at all, isFile tells.
func layoutOf(s string) (*layout, bool) {
	l := &layout{}
	for number, body := range objects(s) {
		if !l.take(number, body) {
			return nil, false
		}
	}
	return l, len(l.sheets) == len(l.contents)
}

// take keeps what an object says; false, if no document has that.
func (l *layout) take(number int, body string) bool {
	switch {
	case value(body, "/Filter", 0) != "":
		l.takeContent(body)
	case value(body, "/Type", 0) == "/Page":
		return l.takeSheet(number, body)
	case value(body, "/Dest", 0) != "":
		return l.takeMark(body)
	case value(body, "/Title", 0) != "":
		return l.takeTitle(body)
	}
	return true
}

func (l *layout) takeContent(body string) {
	_, packed, _ := strings.Cut(body, "\nstream\n")
	l.contents = append(l.contents, strings.TrimSuffix(packed, "\nendstream"))
}

func (l *layout) takeSheet(number int, body string) bool {
	// Ahead of these two stand a bracket and where the page begins: 0 0.
	width, _ := written.LengthFrom(value(body, "/MediaBox", 3))
	height, _ := written.LengthFrom(value(body, "/MediaBox", 4))
	if !file.IsSide(width) || !file.IsSide(height) || len(l.sheets) == api.MaxPages {
		return false
	}
	l.sheets = append(l.sheets, sheet{number: number, width: width, height: height})
	return true
}

func (l *layout) takeMark(body string) bool {
	title, _ := written.StringFrom(value(body, "/Title", 0))
	page := l.pageNamed(value(body, "/Dest", 1))
	if !file.IsMark(title) || page < l.leastPage() || len(l.marks) == api.MaxMarks {
		return false
	}
	l.marks = append(l.marks, api.Mark{Title: title, Page: page})
	return true
}

// pageNamed tells which page's object has that number; -1: none.
func (l *layout) pageNamed(number string) int {
	return slices.IndexFunc(l.sheets, func(z sheet) bool { return strconv.Itoa(z.number) == number })
}

// leastPage is the least that the next mark may be of.
func (l *layout) leastPage() int {
	if len(l.marks) == 0 {
		return 0
	}
	return l.marks[len(l.marks)-1].Page
}

func (l *layout) takeTitle(body string) bool {
	title, ok := written.StringFrom(value(body, "/Title", 0))
	l.title = title
	return ok && file.IsTitle(title)
}

// isFile tells whether s is the file that has this layout, byte by byte.
func (l *layout) isFile(s string) bool {
	text := flow.NewMatch(s)
	f := file.New(text)
	for i, z := range l.sheets {
		if f.PackedPage(z.width, z.height, l.contents[i]) != nil {
			return false
		}
	}
	return f.End(l.title, l.marks) == nil && text.Rest() == ""
}

// pages goes through the pages. False: what is packed there are no
// operations, and nothing comes behind it.
func (l *layout) pages() iter.Seq2[api.Page, bool] {
	return func(yield func(api.Page, bool) bool) {
		for i, z := range l.sheets {
			ops, ok := drawnIn(l.contents[i])
			if !yield(api.Page{W: z.width, H: z.height, Ops: ops}, ok) || !ok {
				return
			}
		}
	}
}

// drawnIn gives the operations that are packed in a content, and nothing else
// with them.
func drawnIn(packed string) ([]api.Op, bool) {
	text, took, ok := packing.Unpack(packed, api.MaxBytes)
	if !ok || took != len(packed) {
		return nil, false
	}
	var ops []api.Op
	for op, ok := range drawing.Operations(text) {
		if !ok {
			return nil, false
		}
		ops = append(ops, drawing.Plain(op))
	}
	return ops, true
}
