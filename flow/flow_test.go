package flow

import "testing"

func TestStoreTakesAll(t *testing.T) {
	var st Store
	for _, s := range []string{"", "ab", "", "\x00\xff"} {
		if err := Writer(&st).Write(s); err != nil {
			t.Errorf("%q: %v", s, err)
		}
	}
	if st.String() != "ab\x00\xff" {
		t.Errorf("%q", st.String())
	}
}
