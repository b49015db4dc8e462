package reading

import (
	"fmt"
	"reflect"
	"slices"
	"strings"
	"testing"

	"press/api"
	"press/file"
	"press/flow"
	"press/packing"
)

// made is a file of two pages.
func made(contents ...string) string {
	k := flow.NewSink(-1)
	f := file.New(k)
	for i, c := range contents {
		f.PackedPage(1000, 2000+i, packing.Pack([]string{c}))
	}
	var marks []api.Mark
	for i := range contents {
		marks = append(marks, api.Mark{Title: fmt.Sprint("mark ", i), Page: i})
	}
	f.End("a title", marks)
	return k.String()
}

func TestRead(t *testing.T) {
	want := api.Document{Title: "a title", Pages: []api.Page{
		{W: 1000, H: 2000, Ops: []api.Op{{Kind: api.Line, E: 1000}, {Kind: api.Text, C: 1000, S: "x)"}}}, {W: 1000, H: 2001},
	}, Marks: []api.Mark{{Title: "mark 0", Page: 0}, {Title: "mark 1", Page: 1}}}
	got, ok := Read(made("1 w 0 0 m 0 0 l S\nBT /F1 1 Tf 0 0 Td (x\\)) Tj ET\n", ""))
	if !ok || !reflect.DeepEqual(got, want) {
		t.Errorf("%+v, %v; want %+v", got, ok, want)
	}
	for _, s := range []string{"", "x", made("x", ""), made("", "x"), made("") + "x", "x" + made(""), strings.Replace(made(""), "Page", "page", 1)} {
		if got, ok := Read(s); ok || !reflect.DeepEqual(got, api.Document{}) {
			t.Errorf("%.40q: %+v, %v", s, got, ok)
		}
	}
}

func TestObjects(t *testing.T) {
	numbers, bodies := []int{}, []string{}
	for number, body := range objects(made()) {
		numbers, bodies = append(numbers, number), append(bodies, body)
	}
	want := []string{"<< /Type /Font /Subtype /Type1 /BaseFont /Helvetica >>", "<< /Type /Pages /Kids [] /Count 0 >>", "<< /Title (a title) >>", "<< /Type /Catalog /Pages 2 0 R >>"}
	if !slices.Equal(numbers, []int{1, 2, 3, 4}) || !slices.Equal(bodies, want) {
		t.Errorf("%v, %q", numbers, bodies)
	}
	for number := range objects(made()) {
		if number > 2 {
			t.Errorf("object %d comes behind the end of the loop", number)
		}
		if number == 2 {
			break
		}
	}
}

// tabled is bytes with a table behind them.
func tabled(s string, begins ...int) string {
	table := "xref\n0 9\n0000000000 65535 f \n"
	for _, b := range begins {
		table += fmt.Sprintf("%010d 00000 n \n", b)
	}
	return s + table + fmt.Sprintf("trailer\n<< >>\nstartxref\n%d\n%%%%EOF\n", len(s))
}

func TestObjectsEndWhereTheTableGoesAstray(t *testing.T) {
	const s = "head\n1\na\nendobj\n2\nb\nendobj\n3\nc\nendobj\n"
	for name, c := range map[string]struct {
		s    string
		want string
	}{
		"all":                   {tabled(s, 5, 16, 27), "a b c"},
		"going back":            {tabled(s, 5, 16, 15), "a"},
		"going back at once":    {tabled(s, 5, 4), ""},
		"behind the end":        {tabled(s, 5, 16, 100000), "a"},
		"below the beginning":   {tabled(s, -5, 16), ""},
		"without a table":       {s, ""},
		"with a wrong place":    {s + "startxref\n1000\n", ""},
		"with no place":         {s + "startxref\n\n", ""},
		"with a place below 0":  {s + "startxref\n-1\n", ""},
		"with nothing behind":   {s + "startxref\n", ""},
		"with a wrong line":     {strings.Replace(tabled(s, 5, 16, 27), "0000000027", "x", 1), "a b\nendobj\n3\nc"},
		"with the place itself": {"startxref\n0\n", ""},
	} {
		var bodies []string
		for _, body := range objects(c.s) {
			bodies = append(bodies, body)
		}
		if got := strings.Join(bodies, " "); got != c.want {
			t.Errorf("%s: %q, want %q", name, got, c.want)
		}
	}
}

func TestValue(t *testing.T) {
	const body = "<< /Type /Page /MediaBox [0 0 5 7.5] /Title (/Dest [) /Count 2 >>"
	for _, c := range []struct {
		key     string
		further int
		want    string
	}{
		{"/Type", 0, "/Page"}, {"/MediaBox", 0, "["}, {"/MediaBox", 3, "5"}, {"/MediaBox", 4, "7.5"}, {"/Title", 0, "(/Dest [)"},
		{"/Dest", 0, ""}, {"/Count", 1, ">>"}, {"/Count", 2, ""}, {">>", 0, ""}, {"", 0, ""},
	} {
		if got := value(body, c.key, c.further); got != c.want {
			t.Errorf("%s, %d further: %q, want %q", c.key, c.further, got, c.want)
		}
	}
}

func TestPagesEndAtWhatIsWrong(t *testing.T) {
	l, ok := layoutOf(made("0 w 0 0 m 0 0 l S\n", "x", ""))
	if !ok || !l.isFile(made("0 w 0 0 m 0 0 l S\n", "x", "")) || l.isFile(made("", "x", "")) {
		t.Fatal("the layout is not read")
	}
	var got []bool
	for _, ok := range l.pages() {
		got = append(got, ok)
	}
	if !slices.Equal(got, []bool{true, false}) {
		t.Errorf("%v", got)
	}
	for page := range l.pages() {
		if page.H != 2000 {
			t.Errorf("the loop goes on with %v", page)
		}
		break
	}
}
