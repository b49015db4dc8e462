// Package flow: how the parts of the writer hand bytes on to one another.
package flow

// Writer takes the next bytes. An error says that it has not taken all of
// them; who gets one sends nothing more.
type Writer interface {
	Write(s string) error
}

// Store is a Writer that takes whatever comes.
type Store struct {
	taken []byte
}

// Write never answers an error.
func (st *Store) Write(s string) error {
	st.taken = append(st.taken, s...)
	return nil
}

// String tells all that was taken.
func (st *Store) String() string { return string(st.taken) }
