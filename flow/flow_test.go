package flow

import (
	"errors"
	"math"
	"testing"
)

func TestSinkTakesNoMoreThanItsLimit(t *testing.T) {
	for _, c := range []struct {
		limit int
		sent  []string
		took  string
		full  bool
	}{
		{-1, []string{"", "ab", "", "\x00\xff"}, "ab\x00\xff", false},
		{math.MinInt, []string{"abc"}, "abc", false},
		{math.MaxInt, []string{"abc", "d"}, "abcd", false},
		{0, []string{""}, "", false},
		{0, []string{"a"}, "", true},
		{5, []string{"abc", "de"}, "abcde", false},
		{5, []string{"abc", "de", ""}, "abcde", false},
		{5, []string{"abc", "def"}, "abcde", true},
		{5, []string{"abcdefgh"}, "abcde", true},
	} {
		k := NewSink(c.limit)
		for i, s := range c.sent {
			err := Writer(k).Write(s)
			if wrong := c.full && i == len(c.sent)-1; wrong != errors.Is(err, ErrFull) || wrong != (err != nil) {
				t.Errorf("limit %d: %q: %v", c.limit, s, err)
			}
		}
		if k.String() != c.took || k.Full() != c.full {
			t.Errorf("limit %d: took %q, full: %v; want %q, %v", c.limit, k.String(), k.Full(), c.took, c.full)
		}
	}
}

func TestSinkOnceFullStaysSo(t *testing.T) {
	k := NewSink(2)
	k.Write("abc")
	for _, s := range []string{"", "d", "defg"} {
		if err := k.Write(s); !errors.Is(err, ErrFull) {
			t.Errorf("%q: %v", s, err)
		}
	}
	if k.String() != "ab" {
		t.Errorf("took %q", k.String())
	}
}

func TestCounterCountsAndHandsOn(t *testing.T) {
	k := NewSink(5)
	c := NewCounter(k)
	for i, s := range []string{"", "ab", "cd"} {
		if err := Writer(c).Write(s); err != nil || c.Count() != 2*i {
			t.Errorf("%q: %v, count %d", s, err, c.Count())
		}
	}
	if k.String() != "abcd" {
		t.Errorf("handed on %q", k.String())
	}
	if err := c.Write("ef"); !errors.Is(err, ErrFull) {
		t.Errorf("behind the limit: %v", err)
	}
}

func TestCounterAlone(t *testing.T) {
	c := NewCounter(nil)
	for range 3 {
		if err := c.Write("abc"); err != nil {
			t.Error(err)
		}
	}
	if c.Count() != 9 {
		t.Errorf("count %d", c.Count())
	}
}

func TestMatchTakesItsTextAlone(t *testing.T) {
	m := NewMatch("some text")
	for _, c := range []struct {
		s, rest string
		ok      bool
	}{
		{"", "some text", true},
		{"x", "some text", false},
		{"some", " text", true},
		{"text", " text", false},
		{" text and more", " text", false},
		{" te", "xt", true},
		{"xt", "", true},
		{"", "", true},
		{"x", "", false},
	} {
		err := Writer(m).Write(c.s)
		if c.ok != (err == nil) || c.ok == errors.Is(err, ErrOther) || m.Rest() != c.rest {
			t.Errorf("%q: %v, the rest is %q", c.s, err, m.Rest())
		}
	}
}
