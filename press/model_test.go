package press_test

import (
	"bytes"
	"compress/zlib"
	"fmt"
	"io"
	"strconv"
	"strings"
	"testing"

	"press/api"
	"press/press"
)

// A second, plain reading of the document: what the calls answer, and the
// file that they make.

// call is one call of a writer.
type call struct {
	name string
	a, b int
	s    string
	o    api.Op
}

func (c call) String() string {
	return fmt.Sprintf("%s(%d %d %.20q %.60v)", c.name, c.a, c.b, c.s, c.o)
}

// callAll is each call once, with arguments that are right.
func callAll() []call {
	frame := api.Op{Kind: api.Image, C: 1, D: 1, Cols: 1, Rows: 1}
	return []call{
		{name: "Page", a: 1, b: 1}, {name: "Draw", o: api.Op{Kind: api.Line}}, {name: "Image", o: frame},
		{name: "Data", s: "x"}, {name: "Data"}, {name: "Mark", s: "m"}, {name: "Title", s: "t"},
		{name: "Flush"}, {name: "EndPage"}, {name: "Close"},
	}
}

func (c call) on(w *press.Writer) api.Errno {
	switch c.name {
	case "Page":
		return w.Page(c.a, c.b)
	case "Draw":
		return w.Draw(c.o)
	case "Image":
		return w.Image(c.o)
	case "Data":
		return w.Data(c.s)
	case "Mark":
		return w.Mark(c.s)
	case "Title":
		return w.Title(c.s)
	case "Flush":
		return w.Flush()
	case "EndPage":
		return w.EndPage()
	case "Close":
		return w.Close()
	}
	panic(c.name)
}

// model is a writer whose sink takes all.
type model struct {
	doc     api.Document
	open    bool
	closed  bool
	image   *api.Op
	lacking int
}

func (m *model) page() *api.Page { return &m.doc.Pages[len(m.doc.Pages)-1] }

// pageText is the operations of the page that is open, as written.
func (m *model) pageText() string { return opsText(m.page().Ops) }

// answer tells what a call answers, and keeps what it does.
func (m *model) answer(c call) api.Errno {
	switch c.name {
	case "Page":
		return m.beginPage(c.a, c.b)
	case "Draw":
		return m.draw(c.o)
	case "Image":
		return m.beginImage(c.o)
	case "Data":
		return m.data(c.s)
	case "Mark":
		return m.mark(c.s)
	case "Title":
		return m.title(c.s)
	case "Flush":
		if m.closed {
			return api.ErrState
		}
		return api.OK
	case "EndPage":
		if !m.open || m.image != nil {
			return api.ErrState
		}
		m.open = false
		return api.OK
	case "Close":
		if m.open || m.closed {
			return api.ErrState
		}
		m.closed = true
		return api.OK
	}
	panic(c.name)
}

func (m *model) beginPage(width int, height int) api.Errno {
	if m.open || m.closed {
		return api.ErrState
	}
	if width < 1 || width > api.MaxPoint || height < 1 || height > api.MaxPoint {
		return api.ErrArg
	}
	if len(m.doc.Pages) == api.MaxPages {
		return api.ErrLimit
	}
	m.doc.Pages = append(m.doc.Pages, api.Page{W: width, H: height})
	m.open = true
	return api.OK
}

func (m *model) draw(o api.Op) api.Errno {
	if !m.open || m.image != nil {
		return api.ErrState
	}
	if !isOp(o) {
		return api.ErrArg
	}
	if len(m.pageText())+len(opText(o)) > api.MaxBytes {
		return api.ErrLimit
	}
	m.page().Ops = append(m.page().Ops, o)
	return api.OK
}

func (m *model) beginImage(o api.Op) api.Errno {
	if !m.open || m.image != nil {
		return api.ErrState
	}
	n := o.Cols * o.Rows
	if o.S != "" || o.Kind != api.Image || n < 1 || n > 64*64 {
		return api.ErrArg
	}
	full := o
	full.S = strings.Repeat("x", n)
	if !isOp(full) {
		return api.ErrArg
	}
	if len(m.pageText())+len(opText(full)) > api.MaxBytes {
		return api.ErrLimit
	}
	m.image, m.lacking = &o, n
	return api.OK
}

func (m *model) data(s string) api.Errno {
	if m.image == nil {
		return api.ErrState
	}
	if len(s) > m.lacking {
		return api.ErrArg
	}
	m.image.S += s
	m.lacking -= len(s)
	if m.lacking == 0 {
		m.page().Ops = append(m.page().Ops, *m.image)
		m.image = nil
	}
	return api.OK
}

func (m *model) mark(title string) api.Errno {
	if !m.open {
		return api.ErrState
	}
	if len(title) < 1 || len(title) > api.MaxText {
		return api.ErrArg
	}
	if len(m.doc.Marks) == api.MaxMarks {
		return api.ErrLimit
	}
	m.doc.Marks = append(m.doc.Marks, api.Mark{Title: title, Page: len(m.doc.Pages) - 1})
	return api.OK
}

func (m *model) title(title string) api.Errno {
	if m.closed {
		return api.ErrState
	}
	if len(title) > api.MaxText {
		return api.ErrArg
	}
	m.doc.Title = title
	return api.OK
}

// isOp tells whether o is an operation, by the table of the document.
func isOp(o api.Op) bool {
	in := func(least int, most int, numbers ...int) bool {
		for _, n := range numbers {
			if n < least || n > most {
				return false
			}
		}
		return true
	}
	const far = 14400000
	switch o.Kind {
	case 1:
		return in(-far, far, o.A, o.B) && in(1, far, o.C) && in(0, 0, o.D, o.E, o.Cols, o.Rows) && len(o.S) <= 100
	case 2:
		return in(-far, far, o.A, o.B, o.C, o.D) && in(0, far, o.E) && in(0, 0, o.Cols, o.Rows, len(o.S))
	case 3:
		return in(-far, far, o.A, o.B) && in(0, far, o.C, o.D) && in(0, 1000, o.E) && in(0, 0, o.Cols, o.Rows, len(o.S))
	case 4:
		return in(-far, far, o.A, o.B) && in(1, far, o.C, o.D) && in(0, 0, o.E) && in(1, 64, o.Cols, o.Rows) && len(o.S) == o.Cols*o.Rows
	}
	return false
}

func lengthText(n int) string { return strconv.FormatFloat(float64(n)/1000, 'f', -1, 64) }

func stringText(s string) string {
	var b strings.Builder
	for _, c := range []byte(s) {
		switch {
		case strings.IndexByte(`()\`, c) >= 0:
			b.WriteString(`\` + string(rune(c)))
		case c < ' ' || c > '~':
			fmt.Fprintf(&b, `\%03o`, c)
		default:
			b.WriteByte(c)
		}
	}
	return "(" + b.String() + ")"
}

// opText is an operation as written.
func opText(o api.Op) string {
	a, b, c, d, e := lengthText(o.A), lengthText(o.B), lengthText(o.C), lengthText(o.D), lengthText(o.E)
	switch o.Kind {
	case 1:
		return fmt.Sprintf("BT /F1 %s Tf %s %s Td %s Tj ET\n", c, a, b, stringText(o.S))
	case 2:
		return fmt.Sprintf("%s w %s %s m %s %s l S\n", e, a, b, c, d)
	case 3:
		return fmt.Sprintf("%s g %s %s %s %s re f\n", e, a, b, c, d)
	}
	return fmt.Sprintf("q %s 0 0 %s %s %s cm BI /W %d /H %d /CS /G /BPC 8 ID %s\nEI Q\n", c, d, a, b, o.Cols, o.Rows, o.S)
}

// inflated is what stands packed at the beginning of s, by Go's library, and
// how many bytes that takes.
func inflated(t *testing.T, s string) (string, int) {
	t.Helper()
	r := bytes.NewReader([]byte(s))
	z, err := zlib.NewReader(r)
	if err != nil {
		t.Fatalf("%v: %.40q", err, s)
	}
	all, err := io.ReadAll(z)
	if err != nil {
		t.Fatalf("%v: %.40q", err, s)
	}
	return string(all), len(s) - r.Len()
}

// fileText makes the file of a document.
type fileText struct {
	text   string
	begins []int
}

func (f *fileText) object(body string) int {
	f.begins = append(f.begins, len(f.text))
	f.text += fmt.Sprintf("%d 0 obj\n%s\nendobj\n", len(f.begins), body)
	return len(f.begins)
}

// contentHead stands ahead of the packed bytes, whose length is in the object
// of that number.
func contentHead(length int) string {
	return fmt.Sprintf("<< /Filter /FlateDecode /Length %d 0 R >>\nstream\n", length)
}

func (f *fileText) content(packed string) {
	f.object(contentHead(len(f.begins)+2) + packed + "\nendstream")
	f.object(fmt.Sprint(len(packed)))
}

// fileOf makes the file of a document whose contents are packed already.
func fileOf(doc api.Document, packed []string) string {
	f := &fileText{text: "%PDF-1.7\n"}
	for _, p := range packed {
		f.content(p)
	}
	f.end(doc)
	return f.text
}

// packedBy packs what is drawn on each page.
func packedBy(pack func(string) string, doc api.Document) []string {
	var packed []string
	for _, p := range doc.Pages {
		packed = append(packed, pack(opsText(p.Ops)))
	}
	return packed
}

// opsText is the operations of a page, as written.
func opsText(ops []api.Op) string {
	var b strings.Builder
	for _, o := range ops {
		b.WriteString(opText(o))
	}
	return b.String()
}

// wantFile holds a file against that of a document; only the packed bytes are
// taken as they are in it.
func wantFile(t *testing.T, got string, doc api.Document) {
	t.Helper()
	f := &fileText{text: "%PDF-1.7\n"}
	for _, p := range doc.Pages {
		f.content(packedIn(t, got, f, p))
	}
	f.end(doc)
	if got != f.text {
		t.Fatalf("the file differs from byte %d on:\n%s", sameUpTo(got, f.text), differing(got, f.text))
	}
}

// packedIn is what a page has packed in a file, of which f is the beginning.
func packedIn(t *testing.T, got string, f *fileText, p api.Page) string {
	t.Helper()
	number := len(f.begins) + 1
	at := len(f.text) + len(fmt.Sprintf("%d 0 obj\n", number)) + len(contentHead(number+1))
	if at > len(got) {
		t.Fatalf("the file ends ahead of object %d: %.80q", number, got)
	}
	raw, took := inflated(t, got[at:])
	if want := opsText(p.Ops); raw != want {
		t.Fatalf("content %d differs from byte %d on:\n%s", number, sameUpTo(raw, want), differing(raw, want))
	}
	return got[at : at+took]
}

func (f *fileText) end(doc api.Document) {
	font := f.object("<< /Type /Font /Subtype /Type1 /BaseFont /Helvetica >>")
	root, first := f.pages(doc.Pages, font)
	outlines := f.marks(doc.Marks, first)
	info := ""
	if doc.Title != "" {
		info = fmt.Sprintf("/Info %d 0 R ", f.object("<< /Title "+stringText(doc.Title)+" >>"))
	}
	catalog := f.object(fmt.Sprintf("<< /Type /Catalog /Pages %d 0 R %s>>", root, outlines))
	f.tail(catalog, info)
}

// tail is all that stands behind the objects.
func (f *fileText) tail(catalog int, info string) {
	at, n := len(f.text), len(f.begins)+1
	f.text += fmt.Sprintf("xref\n0 %d\n0000000000 65535 f \n", n)
	for _, b := range f.begins {
		f.text += fmt.Sprintf("%010d 00000 n \n", b)
	}
	f.text += fmt.Sprintf("trailer\n<< /Size %d /Root %d 0 R %s>>\nstartxref\n%d\n%%%%EOF\n", n, catalog, info, at)
}

// pages makes the pages and the nodes. Parents are filled in afterwards: what
// has no number yet is told apart by who is below it.
func (f *fileText) pages(pages []api.Page, font int) (root int, first int) {
	type thing struct{ number, parent, count int }
	first = len(f.begins) + 1
	var row []*thing
	var all []*thing
	next := first
	for range pages {
		row = append(row, &thing{number: next, count: 1})
		next++
	}
	all = append(all, row...)
	kids := map[int]string{}
	for {
		var above []*thing
		for len(row) > 0 || len(above) == 0 {
			node := &thing{number: next}
			next++
			names := []string{}
			for _, member := range row[:min(8, len(row))] {
				member.parent = node.number
				node.count += member.count
				names = append(names, fmt.Sprintf("%d 0 R", member.number))
			}
			row = row[min(8, len(row)):]
			kids[node.number] = strings.Join(names, " ")
			above = append(above, node)
		}
		all = append(all, above...)
		row = above
		if len(above) == 1 {
			break
		}
	}
	for i, x := range all {
		if i < len(pages) {
			f.object(fmt.Sprintf("<< /Type /Page /Parent %d 0 R /MediaBox [0 0 %s %s] /Contents %d 0 R /Resources << /Font << /F1 %d 0 R >> >> >>",
				x.parent, lengthText(pages[i].W), lengthText(pages[i].H), 2*i+1, font))
			continue
		}
		parent := fmt.Sprintf("/Parent %d 0 R ", x.parent)
		if x.parent == 0 {
			parent, root = "", x.number
		}
		f.object(fmt.Sprintf("<< /Type /Pages %s/Kids [%s] /Count %d >>", parent, kids[x.number], x.count))
	}
	return root, first
}

func (f *fileText) marks(marks []api.Mark, firstPage int) string {
	if len(marks) == 0 {
		return ""
	}
	o := len(f.begins) + 1
	f.object(fmt.Sprintf("<< /Type /Outlines /First %d 0 R /Last %d 0 R /Count %d >>", o+1, o+len(marks), len(marks)))
	for i, m := range marks {
		prev, next := fmt.Sprintf("/Prev %d 0 R ", o+i), fmt.Sprintf("/Next %d 0 R ", o+i+2)
		if i == 0 {
			prev = ""
		}
		if i == len(marks)-1 {
			next = ""
		}
		f.object(fmt.Sprintf("<< /Title %s /Parent %d 0 R %s%s/Dest [%d 0 R /Fit] >>", stringText(m.Title), o, prev, next, firstPage+m.Page))
	}
	return fmt.Sprintf("/Outlines %d 0 R ", o)
}

func sameUpTo(a string, b string) int {
	n := 0
	for n < len(a) && n < len(b) && a[n] == b[n] {
		n++
	}
	return n
}

func differing(got string, want string) string {
	n := max(0, sameUpTo(got, want)-30)
	return fmt.Sprintf("%.120q, want\n%.120q", got[min(n, len(got)):], want[min(n, len(want)):])
}
