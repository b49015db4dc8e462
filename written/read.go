package written

import (
	"strconv"
	"strings"
)

// LengthFrom reads what Length writes; false, if s is nothing of that.
func LengthFrom(s string) (int, bool) {
	whole, rest, _ := strings.Cut(s, ".")
	// Behind the whole part three digits make it thousandths.
	n, err := strconv.Atoi(whole + (rest + "000")[:3])
	if err != nil || Length(n) != s {
		return 0, false
	}
	return n, true
}

// Whole is the whole part of a number of thousandths.
func Whole(n int) int { return n / thousand }

// StringFrom reads what String writes; false, if s is nothing of that.
func StringFrom(s string) (string, bool) {
	rest, _ := strings.CutPrefix(s, "(")
	rest, _ = strings.CutSuffix(rest, ")")
	var text []byte
	for rest != "" {
		c, took := byteFrom(rest)
		text = append(text, c)
		rest = rest[took:]
	}
	// What was read amiss shows here.
	if String(string(text)) != s {
		return "", false
	}
	return string(text), true
}

// byteFrom reads the byte with which s begins, and tells how many of s it
// takes.
func byteFrom(s string) (byte, int) {
	switch {
	case s[0] != '\\' || len(s) == 1:
		return s[0], 1
	case s[1] < '0' || s[1] > '7' || len(s) < 4:
		return s[1], 2
	}
	return (s[1]-'0')<<6 | (s[2]-'0')<<3 | (s[3] - '0'), 4
}
