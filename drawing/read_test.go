package drawing

import (
	"strings"
	"testing"

	"press/api"
	"press/flow"
)

// readAll goes through all operations; false, if it ended at what is none.
func readAll(t *testing.T, s string) ([]api.Op, bool) {
	t.Helper()
	var ops []api.Op
	for op, ok := range Operations(s) {
		if ok != (op != nil) {
			t.Errorf("%.60q: %v, %v", s, op, ok)
		}
		if !ok {
			return ops, false
		}
		ops = append(ops, Plain(op))
	}
	return ops, true
}

func TestOperationsAreReadBack(t *testing.T) {
	text := ""
	for i, c := range examples {
		text += c.want
		ops, ok := readAll(t, text)
		if !ok || len(ops) != i+1 {
			t.Fatalf("%d of %d operations, %v", len(ops), i+1, ok)
		}
		for k, o := range ops {
			if o != examples[k].op {
				t.Errorf("%v, want %v", o, examples[k].op)
			}
		}
	}
	if ops, ok := readAll(t, ""); !ok || len(ops) != 0 {
		t.Errorf("nothing: %v, %v", ops, ok)
	}
}

// Each with all bytes changed in turn is another operation or none; what is
// read is always what stands there.
func TestOperationsThatAreChanged(t *testing.T) {
	for _, c := range examples {
		s := c.want
		if len(s) > 200 {
			continue
		}
		for i := range len(s) {
			for _, x := range []string{s[:i], s[:i] + s[i+1:], s[:i] + " " + s[i:], s[:i] + "0" + s[i:], s[:i] + "x" + s[i+1:], s[:i] + "1" + s[i+1:], s[:i] + "\n" + s[i+1:]} {
				ops, ok := readAll(t, x)
				again := ""
				for _, o := range ops {
					op, fine := From(o)
					if !fine {
						t.Errorf("%q gives %v", x, o)
						continue
					}
					again += textOf(op)
				}
				if ok != (again == x) || !strings.HasPrefix(x, again) {
					t.Errorf("%q gives %v, %v", x, ops, ok)
				}
			}
		}
	}
}

// textOf is an operation as written.
func textOf(op Operation) string {
	k := flow.NewSink(-1)
	op.Write(k)
	return k.String()
}

func TestOperationsEndAtWhatIsNone(t *testing.T) {
	const line = "0 w 0 0 m 0 0 l S\n"
	for _, s := range []string{"x\n", "\n", "0 w 0 0 m 0 0 l S", "0 w 0 0 m 14400.001 0 l S\n", "1.001 g 0 0 0 0 re f\n", "0 0 0 0 0 0 0 0 0 0 S\n", "1 2", "("} {
		calls, wrong := 0, 0
		for _, ok := range Operations(line + line + s + line) {
			calls++
			if !ok {
				wrong++
			}
		}
		if calls != 3 || wrong != 1 {
			t.Errorf("%q: %d times, %d wrong", s, calls, wrong)
		}
	}
}

func TestLeavingTheOperations(t *testing.T) {
	all := Operations(strings.Repeat("0 w 0 0 m 0 0 l S\n", 5) + "x")
	for range 2 {
		n := 0
		for range all {
			n++
			if n == 2 {
				break
			}
		}
		if n != 2 {
			t.Errorf("%d", n)
		}
	}
}
