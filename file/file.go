// Package file: the file of a document, written forward only.
package file

import (
	"strconv"

	"press/api"
	"press/flow"
	"press/packing"
	"press/written"
)

const (
	head      = "%PDF-1.7\n"
	objectEnd = "\nendobj\n"
)

// File sends a file on as it comes. Of what was sent it keeps no more than
// where objects begin, and how wide and high pages are.
type File struct {
	out    *flow.Counter
	begins []int
	sizes  []size
}

type size struct {
	width, height int
}

// New makes a file that goes to next.
func New(next flow.Writer) *File { return &File{out: flow.NewCounter(next)} }

// Pages tells how many pages there are.
func (f *File) Pages() int { return len(f.sizes) }

// Begin sends what stands ahead of all objects, if that was not sent yet.
func (f *File) Begin() error {
	if f.out.Count() > 0 {
		return nil
	}
	return f.out.Write(head)
}

// nextNumber is the number of the object that comes next.
func (f *File) nextNumber() int { return len(f.begins) + 1 }

// beginObject sends the beginning of the next object, up to what it is.
func (f *File) beginObject() error {
	number := f.nextNumber()
	f.begins = append(f.begins, f.out.Count())
	return f.out.Write(strconv.Itoa(number) + " 0 obj\n")
}

// object sends the next object, whole.
func (f *File) object(body string) error {
	if err := f.beginObject(); err != nil {
		return err
	}
	return f.out.Write(body + objectEnd)
}

// BeginPage begins a page.
func (f *File) BeginPage(width int, height int) (*Page, error) {
	if err := f.beginContent(width, height); err != nil {
		return nil, err
	}
	packed := flow.NewCounter(f.out)
	packer := packing.NewPacker(packed)
	return &Page{file: f, drawn: flow.NewCounter(packer), packer: packer, packed: packed}, nil
}

// PackedPage sends a page whose operations are packed already.
func (f *File) PackedPage(width int, height int, packed string) error {
	if err := f.beginContent(width, height); err != nil {
		return err
	}
	if err := f.out.Write(packed); err != nil {
		return err
	}
	return f.endContent(len(packed))
}

// beginContent begins a page by its content, up to the packed bytes.
func (f *File) beginContent(width int, height int) error {
	if err := f.Begin(); err != nil {
		return err
	}
	if err := f.beginObject(); err != nil {
		return err
	}
	// How many bytes there will be is told by the object behind them.
	if err := f.out.Write("<< /Filter /FlateDecode /Length " + written.Name(f.nextNumber()) + " >>\nstream\n"); err != nil {
		return err
	}
	f.sizes = append(f.sizes, size{width, height})
	return nil
}

// endContent ends a page's content, which has so many packed bytes.
func (f *File) endContent(packed int) error {
	if err := f.out.Write("\nendstream" + objectEnd); err != nil {
		return err
	}
	return f.object(strconv.Itoa(packed))
}

// Page is a flow.Writer that takes what is drawn on the page that is open.
type Page struct {
	file   *File
	drawn  *flow.Counter
	packer *packing.Packer
	packed *flow.Counter
}

// Room tells how many bytes more may be drawn.
func (p *Page) Room() int { return api.MaxBytes - p.drawn.Count() }

// Write takes the next bytes that are drawn.
func (p *Page) Write(s string) error { return p.drawn.Write(s) }

// End ends the page.
func (p *Page) End() error {
	if err := p.packer.Close(); err != nil {
		return err
	}
	return p.file.endContent(p.packed.Count())
}
