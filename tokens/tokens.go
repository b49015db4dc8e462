// Package tokens: the words of what stands in a file.
package tokens

import (
	"iter"
	"strings"
)

// Of goes through the tokens of s, with where each of them ends. A string with
// its brackets is one, and so are `[` and `]`; of all other bytes a token has
// as many as stand together. It ends ahead of a string that does not end.
func Of(s string) iter.Seq2[int, string] {
	return func(yield func(int, string) bool) {
		at := 0
		for {
			at += gapLength(s[at:])
			n := tokenLength(s[at:])
			if n == 0 || !yield(at+n, s[at:at+n]) {
				return
			}
			at += n
		}
	}
}

// gapLength tells how many bytes stand ahead of the first token.
func gapLength(s string) int {
	return len(s) - len(strings.TrimLeft(s, " \n"))
}

// tokenLength tells how long the token is with which s begins; 0: there is
// none.
func tokenLength(s string) int {
	switch {
	case s == "":
		return 0
	case s[0] == '(':
		return stringLength(s)
	case s[0] == '[' || s[0] == ']':
		return 1
	}
	if n := strings.IndexAny(s, " \n[]("); n >= 0 {
		return n
	}
	return len(s)
}

func stringLength(s string) int {
	for i := 1; i < len(s); i++ {
		switch s[i] {
		case ')':
			return i + 1
		case '\\':
			// What stands behind it does not end the string.
			i++
		}
	}
	return 0
}
