package tokens

import (
	"slices"
	"strings"
	"testing"
)

// all collects the tokens, and looks at where each of them ends.
func all(t *testing.T, s string) []string {
	t.Helper()
	var words []string
	for end, word := range Of(s) {
		if word == "" || !strings.HasSuffix(s[:end], word) {
			t.Errorf("%q: %q does not end at %d", s, word, end)
		}
		words = append(words, word)
	}
	return words
}

func TestOf(t *testing.T) {
	for s, want := range map[string][]string{
		"":                                  nil,
		" \n \n":                            nil,
		"a":                                 {"a"},
		" a\nbc  d ":                        {"a", "bc", "d"},
		"[0 0 5 7.5]":                       {"[", "0", "0", "5", "7.5", "]"},
		"[][ ]":                             {"[", "]", "[", "]"},
		"<< /Kids [1 0 R] >>":               {"<<", "/Kids", "[", "1", "0", "R", "]", ">>"},
		"(a b\nc) d":                        {"(a b\nc)", "d"},
		`(a\)b) (\\) (\050\\\)x)()`:         {`(a\)b)`, `(\\)`, `(\050\\\)x)`, "()"},
		"/Title(x)/Dest":                    {"/Title", "(x)", "/Dest"},
		"a (b":                              {"a"},
		`a (b\)`:                            {"a"},
		`a (b\`:                             {"a"},
		"(":                                 nil,
		"a)b c":                             {"a)b", "c"},
		"\x00\xff\t\r x":                    {"\x00\xff\t\r", "x"},
		"q 1 0 0 1 0 0 cm BI ID \x00\nEI Q": {"q", "1", "0", "0", "1", "0", "0", "cm", "BI", "ID", "\x00", "EI", "Q"},
	} {
		if got := all(t, s); !slices.Equal(got, want) {
			t.Errorf("%q: %q, want %q", s, got, want)
		}
	}
}

func TestLeavingTheLoop(t *testing.T) {
	words := Of("a b c d")
	for range 3 {
		var got []string
		for end, word := range words {
			got = append(got, word)
			if word == "b" {
				if end != 3 {
					t.Errorf("b ends at %d", end)
				}
				break
			}
		}
		if !slices.Equal(got, []string{"a", "b"}) {
			t.Errorf("%q", got)
		}
	}
}
