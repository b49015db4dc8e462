// Package written: how numbers and strings stand in a file.
package written

import (
	"strconv"
	"strings"
)

const thousand = 1000

// Length writes a number of thousandths.
func Length(n int) string {
	sign := ""
	if n < 0 {
		sign, n = "-", -n
	}
	whole := sign + strconv.Itoa(n/thousand)
	rest := n % thousand
	if rest == 0 {
		return whole
	}
	// With a thousand more there are always three digits behind the first.
	digits := strconv.Itoa(thousand + rest)[1:]
	return whole + "." + strings.TrimRight(digits, "0")
}

// String writes s in brackets.
func String(s string) string {
	var b strings.Builder
	b.WriteByte('(')
	for i := 0; i < len(s); i++ {
		writeByte(&b, s[i])
	}
	b.WriteByte(')')
	return b.String()
}

func writeByte(b *strings.Builder, c byte) {
	switch {
	case c == '(' || c == ')' || c == '\\':
		b.WriteByte('\\')
		b.WriteByte(c)
	case c < 32 || c > 126:
		b.WriteByte('\\')
		b.WriteByte('0' + c>>6)
		b.WriteByte('0' + c>>3&7)
		b.WriteByte('0' + c&7)
	default:
		b.WriteByte(c)
	}
}

// Name is what names the object of that number.
func Name(number int) string { return strconv.Itoa(number) + " 0 R" }
