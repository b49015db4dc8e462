package file

import (
	"strconv"
	"strings"

	"press/api"
	"press/written"
)

const fontBody = "<< /Type /Font /Subtype /Type1 /BaseFont /Helvetica >>"

// End sends all that stands behind the pages' contents.
func (f *File) End(title string, marks []api.Mark) error {
	if err := f.Begin(); err != nil {
		return err
	}
	e := endingOf(f.nextNumber(), f.sizes, title, marks)
	for _, body := range e.bodies {
		if err := f.object(body); err != nil {
			return err
		}
	}
	at := strconv.Itoa(f.out.Count())
	return f.out.Write(f.table() + e.trailer(f.nextNumber()) + "startxref\n" + at + "\n%%EOF\n")
}

// table tells where each object begins.
func (f *File) table() string {
	var b strings.Builder
	b.WriteString("xref\n0 " + strconv.Itoa(f.nextNumber()) + "\n0000000000 65535 f \n")
	for _, at := range f.begins {
		b.WriteString(tenDigits(at) + " 00000 n \n")
	}
	return b.String()
}

func tenDigits(n int) string {
	s := strconv.Itoa(n)
	return strings.Repeat("0", max(0, 10-len(s))) + s
}

// ending is what the objects behind the contents are. A number of 0 is that
// of an object that there is not.
type ending struct {
	first         int
	bodies        []string
	info, catalog int
}

func endingOf(first int, sizes []size, title string, marks []api.Mark) *ending {
	e := &ending{first: first}
	font := e.add(fontBody)
	rows := rowsOf(e.next(), len(sizes))
	for i, z := range sizes {
		e.add(pageBody(z, rows.parent(0, i), contentNumber(i), font))
	}
	root := e.addNodes(rows)
	outlines := e.addMarks(marks, rows[0].first)
	if title != "" {
		e.info = e.add("<< /Title " + written.String(title) + " >>")
	}
	e.catalog = e.add("<< /Type /Catalog /Pages " + written.Name(root) + " " + entry("/Outlines", outlines) + ">>")
	return e
}

// next is the number of the object that is added next.
func (e *ending) next() int { return e.first + len(e.bodies) }

// add adds an object and tells its number.
func (e *ending) add(body string) int {
	number := e.next()
	e.bodies = append(e.bodies, body)
	return number
}

// addNodes adds the nodes and tells the number of the root.
func (e *ending) addNodes(rows tree) int {
	for r := 1; r < len(rows); r++ {
		for i := range rows[r].count {
			e.add("<< /Type /Pages " + entry("/Parent", rows.parent(r, i)) + "/Kids [" + rows.kids(r, i) + "] /Count " + strconv.Itoa(rows.pagesBelow(r, i)) + " >>")
		}
	}
	return e.next() - 1
}

// addMarks adds the marks and tells the number of the object ahead of them.
func (e *ending) addMarks(marks []api.Mark, firstPage int) int {
	if len(marks) == 0 {
		return 0
	}
	all := e.next()
	first, last := all+1, all+len(marks)
	e.add("<< /Type /Outlines " + entry("/First", first) + entry("/Last", last) + "/Count " + strconv.Itoa(len(marks)) + " >>")
	for i, m := range marks {
		prev, next := first+i-1, first+i+1
		if prev < first {
			prev = 0
		}
		if next > last {
			next = 0
		}
		e.add("<< /Title " + written.String(m.Title) + " " + entry("/Parent", all) + entry("/Prev", prev) + entry("/Next", next) + "/Dest [" + written.Name(firstPage+m.Page) + " /Fit] >>")
	}
	return all
}

func (e *ending) trailer(count int) string {
	return "trailer\n<< /Size " + strconv.Itoa(count) + " " + entry("/Root", e.catalog) + entry("/Info", e.info) + ">>\n"
}

func pageBody(z size, parent int, content int, font int) string {
	box := "/MediaBox [0 0 " + written.Length(z.width) + " " + written.Length(z.height) + "] "
	return "<< /Type /Page " + entry("/Parent", parent) + box + entry("/Contents", content) + "/Resources << /Font << " + entry("/F1", font) + ">> >> >>"
}

// contentNumber is the number of a page's content: two objects a page stand
// ahead of all others.
func contentNumber(page int) int { return 2*page + 1 }

// entry names an object by a key, with a blank behind; nothing, if there is
// no such object.
func entry(key string, number int) string {
	if number == 0 {
		return ""
	}
	return key + " " + written.Name(number) + " "
}
