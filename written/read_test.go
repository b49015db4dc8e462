package written

import (
	"math"
	"math/rand"
	"strconv"
	"strings"
	"testing"
)

func TestLengthFromWhatLengthWrites(t *testing.T) {
	for n := -20000; n <= 20000; n++ {
		if got, ok := LengthFrom(Length(n)); got != n || !ok {
			t.Errorf("%q: %d, %v", Length(n), got, ok)
		}
	}
	for _, n := range []int{14400000, -14400000, 14399999, math.MaxInt, math.MinInt + 1} {
		if got, ok := LengthFrom(Length(n)); got != n || !ok {
			t.Errorf("%q: %d, %v", Length(n), got, ok)
		}
	}
}

func TestLengthFromOther(t *testing.T) {
	for _, s := range []string{
		"", "-", ".", "-.", "-0", "+1", "00", "01", "-01", "1.", "1.0", "1.50", "1.500", "1.0001", "1.2345", ".5", "-.5", "0.0", "-0.0",
		" 1", "1 ", "1 0", "1,5", "1e3", "0x1", "1_0", "--1", "1.-5", "1.+5", "1.5.5", "1..5", "1.5-", "a", "1a", "1.a", "(1)", "NaN", "\x00", "١",
		"9223372036854775.808", "-9223372036854775.808", "-9223372036854775.809", "9223372036854775808", "18446744073709551.616", strings.Repeat("9", 1000), "0." + strings.Repeat("1", 1000),
	} {
		if got, ok := LengthFrom(s); got != 0 || ok {
			t.Errorf("%q: %d, %v", s, got, ok)
		}
	}
}

// Texts of the bytes that numbers are made of, held against the library.
func TestLengthFromAny(t *testing.T) {
	r := rand.New(rand.NewSource(1))
	taken := 0
	for range 200000 {
		b := make([]byte, r.Intn(6))
		for i := range b {
			b[i] = "-.00123459"[r.Intn(10)]
		}
		s := string(b)
		x, err := strconv.ParseFloat(s, 64)
		n := int(math.Round(1000 * x))
		want := err == nil && strconv.FormatFloat(float64(n)/1000, 'f', -1, 64) == s && s != "-0"
		got, ok := LengthFrom(s)
		if ok != want || ok && got != n {
			t.Fatalf("%q: %d, %v", s, got, ok)
		}
		if ok {
			taken++
		}
	}
	if taken < 20000 {
		t.Errorf("%d are numbers", taken)
	}
}

func TestWhole(t *testing.T) {
	for n, want := range map[int]int{0: 0, 999: 0, 1000: 1, 64000: 64, 64999: 64, -1000: -1} {
		if got := Whole(n); got != want {
			t.Errorf("%d: %d", n, got)
		}
	}
}

func TestStringFromWhatStringWrites(t *testing.T) {
	texts := []string{"", "a(b", "()\\", "\\", "\\101", "\n\r\t", "101", "\x01" + "01", "é1"}
	for c := range 256 {
		texts = append(texts, string([]byte{byte(c)}), string([]byte{byte(c), '7', byte(c)}), string([]byte{'\\', byte(c)}))
	}
	for _, s := range texts {
		if got, ok := StringFrom(String(s)); got != s || !ok {
			t.Errorf("%s: %q, %v", String(s), got, ok)
		}
	}
}

func TestStringFromOther(t *testing.T) {
	for _, s := range []string{
		"", "(", ")", "a", "(a", "a)", "((", "))", "(()", "())", "(a)b", " (a)", "(a) ", `(\)`, `(\`, `\`, `(a\)`, `(\a)`, `(\n)`, `(\1)`, `(\12)`, `(\0)`, `(\00)`,
		`(\101)`, `(\050)`, `(\134)`, `(\040)`, `(\176)`, `(\400)`, `(\777)`, `(\08x)`, `(\0/x)`, `(\38x)`, "(\n)", "(\x00)", "(\x7f)", "(\x80)", "(\xff)", "(é)", "<61>",
	} {
		if got, ok := StringFrom(s); got != "" || ok {
			t.Errorf("%q: %q, %v", s, got, ok)
		}
	}
}
