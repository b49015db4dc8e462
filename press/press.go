// Package press writes reports as PDF, and reads them. See DOC.md.
package press

import (
	"press/api"
	"press/packing"
)

// Pack packs bytes, which come in pieces (P3).
func Pack(pieces []string) string { return packing.Pack(pieces) }

// Unpack gives packed bytes back, and how many of s they took (P4).
func Unpack(s string) (string, int, api.Errno) {
	all, took, ok := packing.Unpack(s, api.MaxBytes)
	if !ok {
		return "", 0, api.ErrBytes
	}
	return all, took, api.OK
}

// Writer writes a file, forward only.
type Writer struct{}

// New makes a writer, whose sink takes so many bytes; a number below 0: any (P5).
func New(limit int) *Writer { return nil }

// Page begins a page (P7).
func (w *Writer) Page(width int, height int) api.Errno { return api.OK }

// Draw draws a text, a line, a rectangle, or a whole image (P8).
func (w *Writer) Draw(o api.Op) api.Errno { return api.OK }

// Image begins an image whose bytes come by Data (P9).
func (w *Writer) Image(o api.Op) api.Errno { return api.OK }

// Data gives some of an image's bytes (P9).
func (w *Writer) Data(s string) api.Errno { return api.OK }

// Mark makes a bookmark of the page that is open (P10).
func (w *Writer) Mark(title string) api.Errno { return api.OK }

// Title says what the file is called (P10).
func (w *Writer) Title(title string) api.Errno { return api.OK }

// Flush sends all that has been written to the sink (P6).
func (w *Writer) Flush() api.Errno { return api.OK }

// EndPage ends the page (P7).
func (w *Writer) EndPage() api.Errno { return api.OK }

// Close ends the file (P11).
func (w *Writer) Close() api.Errno { return api.OK }

// Bytes tells what the sink has taken (P6).
func (w *Writer) Bytes() string { return "" }

// Read reads a file (P13).
func Read(s string) (api.Document, api.Errno) { return api.Document{}, api.OK }
