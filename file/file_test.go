package file

import (
	"errors"
	"fmt"
	"strings"
	"testing"

	"press/api"
	"press/flow"
	"press/packing"
)

func TestEmptyFile(t *testing.T) {
	k := flow.NewSink(-1)
	if err := New(k).End("", nil); err != nil {
		t.Fatal(err)
	}
	objects := []string{
		"1 0 obj\n<< /Type /Font /Subtype /Type1 /BaseFont /Helvetica >>\nendobj\n",
		"2 0 obj\n<< /Type /Pages /Kids [] /Count 0 >>\nendobj\n",
		"3 0 obj\n<< /Type /Catalog /Pages 2 0 R >>\nendobj\n",
	}
	want := "%PDF-1.7\n"
	table := "xref\n0 4\n0000000000 65535 f \n"
	for _, o := range objects {
		table += fmt.Sprintf("%010d 00000 n \n", len(want))
		want += o
	}
	want += table + fmt.Sprintf("trailer\n<< /Size 4 /Root 3 0 R >>\nstartxref\n%d\n%%%%EOF\n", len(want))
	if k.String() != want {
		t.Errorf("%q, want %q", k.String(), want)
	}
}

func TestBeginSendsOnce(t *testing.T) {
	k := flow.NewSink(-1)
	f := New(k)
	if k.String() != "" {
		t.Errorf("New sends %q", k.String())
	}
	for range 3 {
		if err := f.Begin(); err != nil || k.String() != "%PDF-1.7\n" {
			t.Errorf("%q, %v", k.String(), err)
		}
	}
}

func TestPageGoesOnAsItComes(t *testing.T) {
	k := flow.NewSink(-1)
	f := New(k)
	p, err := f.BeginPage(1000, 2500)
	want := "%PDF-1.7\n1 0 obj\n<< /Filter /FlateDecode /Length 2 0 R >>\nstream\n"
	if err != nil || k.String() != want || f.Pages() != 1 {
		t.Fatalf("%q, %v, %d pages", k.String(), err, f.Pages())
	}
	all := ""
	for i := range 500 {
		s := fmt.Sprintf("%d w %d %d m 0 0 l S\n", i, i*i, i*7)
		all += s
		if err := p.Write(s); err != nil {
			t.Fatal(err)
		}
	}
	if p.Room() != api.MaxBytes-len(all) {
		t.Errorf("room for %d behind %d", p.Room(), len(all))
	}
	if n := len(k.String()); n < len(want)+1000 {
		t.Errorf("%d bytes were sent while the page is open", n)
	}
	if err := p.End(); err != nil {
		t.Fatal(err)
	}
	packed := packing.Pack([]string{all})
	want += packed + fmt.Sprintf("\nendstream\nendobj\n2 0 obj\n%d\nendobj\n", len(packed))
	if k.String() != want {
		t.Errorf("%q, want %q", k.String(), want)
	}
}

// shapeOf tells the counts of a tree's rows, by going up from the pages.
func shapeOf(pages int) []int {
	shape := []int{pages}
	for n := pages; ; {
		above := 0
		for k := 0; k < n; k += 8 {
			above++
		}
		n = max(above, 1)
		shape = append(shape, n)
		if n == 1 {
			return shape
		}
	}
}

func TestTreeOfAnyNumberOfPages(t *testing.T) {
	for pages := range 700 {
		rows := rowsOf(100, pages)
		shape, next := shapeOf(pages), 100
		if len(rows) != len(shape) {
			t.Fatalf("%d pages: %v", pages, rows)
		}
		for r, row := range rows {
			if row.count != shape[r] || row.first != next {
				t.Errorf("%d pages, row %d: %v", pages, r, row)
			}
			next += row.count
			checkRow(t, rows, r)
		}
	}
}

// checkRow looks at the nodes of a row: what they have, and that these name
// them as their parents.
func checkRow(t *testing.T, rows tree, r int) {
	t.Helper()
	if r == 0 {
		return
	}
	member, pages := 0, 0
	for i := range rows[r].count {
		var names []string
		below := 0
		for ; member < rows[r-1].count && len(names) < 8; member++ {
			names = append(names, fmt.Sprintf("%d 0 R", rows[r-1].first+member))
			below += 1
			if r > 1 {
				below += rows.pagesBelow(r-1, member) - 1
			}
			if rows.parent(r-1, member) != rows[r].first+i {
				t.Errorf("the parent of member %d of row %d is %d", member, r-1, rows.parent(r-1, member))
			}
		}
		if got := rows.kids(r, i); got != strings.Join(names, " ") {
			t.Errorf("row %d, node %d has %q", r, i, got)
		}
		if got := rows.pagesBelow(r, i); got != below {
			t.Errorf("row %d, node %d has %d pages, want %d", r, i, got, below)
		}
		pages += below
	}
	if pages != rows[0].count || member != rows[r-1].count {
		t.Errorf("row %d has %d pages and %d members", r, pages, member)
	}
	if r == len(rows)-1 && (rows[r].count != 1 || rows.parent(r, 0) != 0) {
		t.Errorf("the root: %v, with the parent %d", rows[r], rows.parent(r, 0))
	}
}

func TestEveryObjectIsInTheTable(t *testing.T) {
	k := flow.NewSink(-1)
	f := New(k)
	for range 9 {
		p, _ := f.BeginPage(1, 1)
		p.Write("x")
		p.End()
	}
	f.End("title", []api.Mark{{Title: "a", Page: 0}, {Title: "b", Page: 8}, {Title: "c", Page: 8}})
	s := k.String()
	// Contents, the font, pages, nodes, marks, title, catalog.
	const count = 18 + 1 + 9 + 3 + 4 + 1 + 1
	lines := strings.Split(s[strings.Index(s, "xref\n"):], "\n")
	if lines[1] != fmt.Sprint("0 ", count+1) {
		t.Errorf("the table has %q", lines[1])
	}
	for i := 1; i <= count; i++ {
		at := strings.Index(s, fmt.Sprintf("\n%d 0 obj\n", i)) + 1
		if lines[i+2] != fmt.Sprintf("%010d 00000 n ", at) {
			t.Errorf("object %d begins at %d: %q", i, at, lines[i+2])
		}
	}
	if lines[count+3] != "trailer" {
		t.Errorf("behind the table stands %q", lines[count+3])
	}
}

// stopped refuses all from a call on, and counts.
type stopped struct{ takes, calls int }

func (s *stopped) Write(string) error {
	s.calls++
	if s.calls > s.takes {
		return flow.ErrFull
	}
	return nil
}

// play makes a small file, up to the first error.
func play(next flow.Writer) error {
	f := New(next)
	for range 2 {
		p, err := f.BeginPage(1, 1)
		if err != nil {
			return err
		}
		if err := p.Write(strings.Repeat("some words ", 100)); err != nil {
			return err
		}
		if err := p.End(); err != nil {
			return err
		}
	}
	return f.End("title", []api.Mark{{Title: "m", Page: 1}})
}

func TestNothingIsSentBehindAnError(t *testing.T) {
	all := &stopped{takes: 1 << 30}
	if err := play(all); err != nil {
		t.Fatal(err)
	}
	for takes := range all.calls {
		s := &stopped{takes: takes}
		if err := play(s); !errors.Is(err, flow.ErrFull) || s.calls != takes+1 {
			t.Errorf("%d are taken: %d calls, %v", takes, s.calls, err)
		}
	}
}
