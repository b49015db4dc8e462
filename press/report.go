package press

import (
	"press/api"
	"press/drawing"
	"press/file"
	"press/flow"
)

// report is what a writer keeps from call to call.
type report struct {
	sink *flow.Sink
	// Nil, if it is closed.
	file *file.File
	// Nil, if no page is open.
	page *file.Page
	// How many bytes the image that is open still gets; 0, if none is.
	lacking int
	title   string
	marks   []api.Mark
}

func newReport(limit int) *report {
	sink := flow.NewSink(limit)
	return &report{sink: sink, file: file.New(sink)}
}

// ready gives what the writer keeps, and why no call may be made at all.
func (w *Writer) ready() (*report, api.Errno) {
	switch {
	case w == nil || w.report == nil:
		return nil, api.ErrState
	case w.report.sink.Full():
		return nil, api.ErrSink
	}
	return w.report, api.OK
}

// readyToDraw is ready, and refuses too if nothing may be drawn now.
func (w *Writer) readyToDraw() (*report, api.Errno) {
	r, e := w.ready()
	if e == api.OK && (r.page == nil || r.lacking > 0) {
		return nil, api.ErrState
	}
	return r, e
}

// sent tells what a call answers whose bytes went on with that error: only a
// sink makes one.
func sent(err error) api.Errno {
	if err != nil {
		return api.ErrSink
	}
	return api.OK
}

func (r *report) beginPage(width int, height int) api.Errno {
	page, err := r.file.BeginPage(width, height)
	r.page = page
	return sent(err)
}

func (r *report) beginImage(frame drawing.Frame) api.Errno {
	r.lacking = frame.Bytes()
	return sent(frame.Begin(r.page))
}

func (r *report) imageBytes(s string) api.Errno {
	r.lacking -= len(s)
	err := r.page.Write(s)
	if err == nil && r.lacking == 0 {
		err = drawing.EndImage(r.page)
	}
	return sent(err)
}

func (r *report) endPage() api.Errno {
	err := r.page.End()
	// What a page needed is not kept.
	r.page = nil
	return sent(err)
}

func (r *report) endFile() api.Errno {
	err := r.file.End(r.title, r.marks)
	// Nothing but the sink is left of a file.
	*r = report{sink: r.sink}
	return sent(err)
}
