// Package reading: documents, read back from their files.
package reading

import "press/api"

// Read reads a file; false, if s is that of no document.
func Read(s string) (api.Document, bool) {
	// First all but what is packed: of what is no file nothing is unpacked.
	l, ok := layoutOf(s)
	if !ok || !l.isFile(s) {
		return api.Document{}, false
	}
	d := api.Document{Title: l.title, Marks: l.marks}
	for page, ok := range l.pages() {
		if !ok {
			return api.Document{}, false
		}
		d.Pages = append(d.Pages, page)
	}
	return d, true
}
