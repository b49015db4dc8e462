package written

import (
	"fmt"
	"strconv"
	"strings"
	"testing"
)

func TestLengthOfSome(t *testing.T) {
	for n, want := range map[int]string{
		0: "0", 1: "0.001", 10: "0.01", 100: "0.1", 120: "0.12", 999: "0.999",
		1000: "1", 1001: "1.001", 1010: "1.01", 1100: "1.1", 3000: "3", 10000: "10",
		12345: "12.345", 14400000: "14400", 14399999: "14399.999",
		-1: "-0.001", -20: "-0.02", -500: "-0.5", -1000: "-1", -1500: "-1.5", -14400000: "-14400",
	} {
		if got := Length(n); got != want {
			t.Errorf("%d: %q, want %q", n, got, want)
		}
	}
}

func TestLengthOfMany(t *testing.T) {
	for n := -20000; n <= 20000; n++ {
		want := strconv.FormatFloat(float64(n)/1000, 'f', -1, 64)
		if got := Length(n); got != want {
			t.Errorf("%d: %q, want %q", n, got, want)
		}
	}
}

func TestStringOfEachByte(t *testing.T) {
	for c := range 256 {
		s := string([]byte{byte(c)})
		want := s
		switch {
		case strings.Contains(`()\`, s):
			want = `\` + s
		case c < 32 || c > 126:
			want = fmt.Sprintf(`\%03o`, c)
		}
		if got := String(s); got != "("+want+")" {
			t.Errorf("%q: %q", s, got)
		}
	}
}

func TestStringOfSome(t *testing.T) {
	for s, want := range map[string]string{
		"":                 "()",
		"a(b":              `(a\(b)`,
		"a(b\\\n\xff)":     `(a\(b\\\012\377\))`,
		" ~\x1f\x7f\x00é1": `( ~\037\177\000\303\2511)`,
	} {
		if got := String(s); got != want {
			t.Errorf("%q: %s, want %s", s, got, want)
		}
	}
}

func TestName(t *testing.T) {
	if got := Name(120); got != "120 0 R" {
		t.Errorf("%q", got)
	}
}
