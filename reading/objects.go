package reading

import (
	"iter"
	"strconv"
	"strings"

	"press/tokens"
)

const (
	offsetDigits = 10
	lineLength   = 20
)

// objects goes through the objects of a file, by their numbers, with what
// each of them is. It ends where the table does not go forward.
func objects(s string) iter.Seq2[int, string] {
	return func(yield func(int, string) bool) {
		number, at := 0, 0
		for next := range begins(s) {
			if next < at || next > len(s) {
				return
			}
			// Ahead of the first one stands what is no object.
			if number > 0 && !yield(number, bodyOf(s[at:next])) {
				return
			}
			number, at = number+1, next
		}
	}
}

// begins goes through where objects begin, as the table tells, and at last
// tells where the table does.
func begins(s string) iter.Seq[int] {
	return func(yield func(int) bool) {
		at, lines := tableOf(s)
		for len(lines) >= lineLength {
			begin, err := strconv.Atoi(lines[:offsetDigits])
			if err != nil {
				break
			}
			if !yield(begin) {
				return
			}
			lines = lines[lineLength:]
		}
		yield(at)
	}
}

// tableOf tells where the table of a file begins, and gives its lines from
// that of the first object on; nothing, if there is no table.
func tableOf(s string) (int, string) {
	const ahead = "startxref\n"
	end := strings.LastIndex(s, ahead)
	if end < 0 {
		return 0, ""
	}
	number, _, _ := strings.Cut(s[end+len(ahead):], "\n")
	at, err := strconv.Atoi(number)
	if err != nil || at < 0 || at > end {
		return 0, ""
	}
	lines := s[at:end]
	// `xref`, how many objects there are, and the line of the number 0.
	for range 3 {
		_, lines, _ = strings.Cut(lines, "\n")
	}
	return at, lines
}

// bodyOf takes away what stands around any object.
func bodyOf(object string) string {
	_, body, _ := strings.Cut(object, "\n")
	return strings.TrimSuffix(body, "\nendobj\n")
}

// value gives the token that stands behind a key, and so many further; empty,
// if there is none.
func value(body string, key string, further int) string {
	found := false
	for _, token := range tokens.Of(body) {
		switch {
		case !found:
			found = token == key
		case further == 0:
			return token
		default:
			further--
		}
	}
	return ""
}
