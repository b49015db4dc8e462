// Package press writes reports as PDF, and reads them. See DOC.md.
package press

import (
	"strings"

	"press/api"
	"press/drawing"
	"press/file"
	"press/packing"
	"press/reading"
)

// Pack packs bytes, which come in pieces (P3).
func Pack(pieces []string) string { return packing.Pack(pieces) }

// Unpack gives packed bytes back, and how many of s they took (P4).
func Unpack(s string) (string, int, api.Errno) {
	all, took, ok := packing.Unpack(s, api.MaxBytes)
	if !ok {
		return "", 0, api.ErrBytes
	}
	return all, took, api.OK
}

// Writer writes a file, forward only.
type Writer struct {
	// Behind a pointer, so that a copy of a Writer is the same writer.
	report *report
}

// New makes a writer, whose sink takes so many bytes; a number below 0: any (P5).
func New(limit int) *Writer { return &Writer{report: newReport(limit)} }

// Page begins a page (P7).
func (w *Writer) Page(width int, height int) api.Errno {
	r, e := w.ready()
	switch {
	case e != api.OK:
		return e
	case r.page != nil || r.file == nil:
		return api.ErrState
	case !file.IsSide(width) || !file.IsSide(height):
		return api.ErrArg
	case r.file.Pages() >= api.MaxPages:
		return api.ErrLimit
	}
	return r.beginPage(width, height)
}

// Draw draws a text, a line, a rectangle, or a whole image (P8).
func (w *Writer) Draw(o api.Op) api.Errno {
	r, e := w.readyToDraw()
	if e != api.OK {
		return e
	}
	op, ok := drawing.From(o)
	switch {
	case !ok:
		return api.ErrArg
	case drawing.Size(op) > r.page.Room():
		return api.ErrLimit
	}
	return sent(op.Write(r.page))
}

// Image begins an image whose bytes come by Data (P9).
func (w *Writer) Image(o api.Op) api.Errno {
	r, e := w.readyToDraw()
	if e != api.OK {
		return e
	}
	frame, ok := drawing.FrameFrom(o)
	switch {
	case !ok:
		return api.ErrArg
	case drawing.Size(drawing.Image{Frame: frame})+frame.Bytes() > r.page.Room():
		return api.ErrLimit
	}
	return r.beginImage(frame)
}

// Data gives some of an image's bytes (P9).
func (w *Writer) Data(s string) api.Errno {
	r, e := w.ready()
	switch {
	case e != api.OK:
		return e
	case r.lacking == 0:
		return api.ErrState
	case len(s) > r.lacking:
		return api.ErrArg
	}
	return r.imageBytes(s)
}

// Mark makes a bookmark of the page that is open (P10).
func (w *Writer) Mark(title string) api.Errno {
	r, e := w.ready()
	switch {
	case e != api.OK:
		return e
	case r.page == nil:
		return api.ErrState
	case !file.IsMark(title):
		return api.ErrArg
	case len(r.marks) >= api.MaxMarks:
		return api.ErrLimit
	}
	r.marks = append(r.marks, api.Mark{Title: strings.Clone(title), Page: r.file.Pages() - 1})
	return api.OK
}

// Title says what the file is called (P10).
func (w *Writer) Title(title string) api.Errno {
	r, e := w.ready()
	switch {
	case e != api.OK:
		return e
	case r.file == nil:
		return api.ErrState
	case !file.IsTitle(title):
		return api.ErrArg
	}
	r.title = strings.Clone(title)
	return api.OK
}

// Flush sends all that has been written to the sink (P6).
func (w *Writer) Flush() api.Errno {
	r, e := w.ready()
	switch {
	case e != api.OK:
		return e
	case r.file == nil:
		return api.ErrState
	}
	// All that comes behind the beginning is handed on as it comes.
	return sent(r.file.Begin())
}

// EndPage ends the page (P7).
func (w *Writer) EndPage() api.Errno {
	r, e := w.readyToDraw()
	if e != api.OK {
		return e
	}
	return r.endPage()
}

// Close ends the file (P11).
func (w *Writer) Close() api.Errno {
	r, e := w.ready()
	switch {
	case e != api.OK:
		return e
	case r.page != nil || r.file == nil:
		return api.ErrState
	}
	return r.endFile()
}

// Bytes tells what the sink has taken (P6).
func (w *Writer) Bytes() string {
	if w == nil || w.report == nil {
		return ""
	}
	return w.report.sink.String()
}

// Read reads a file (P13).
func Read(s string) (api.Document, api.Errno) {
	d, ok := reading.Read(s)
	if !ok {
		return api.Document{}, api.ErrBytes
	}
	return d, api.OK
}
