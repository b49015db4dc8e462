package press_test

import (
	"fmt"
	"math"
	"math/rand"
	"reflect"
	"regexp"
	"strconv"
	"strings"
	"testing"

	"press/api"
	"press/press"
)

// A second, plain reading of a file: what it says of its document is picked out
// by patterns, and it must be that document's file.

var (
	boxPattern   = regexp.MustCompile(`<< /Type /Page /Parent [0-9]+ 0 R /MediaBox \[0 0 ([^ ]*) ([^ ]*)\] `)
	markPattern  = regexp.MustCompile(`<< /Title ` + aString + `/Parent [0-9]+ 0 R (?:/Prev [0-9]+ 0 R )?(?:/Next [0-9]+ 0 R )?/Dest \[([0-9]+) 0 R `)
	titlePattern = regexp.MustCompile(`<< /Title ` + aString + `>>`)
)

// documentIn is the document whose file s is, if it is one.
func documentIn(s string) (api.Document, bool) {
	var d api.Document
	var packed []string
	at := len("%PDF-1.7\n")
	for at < len(s) {
		number := 2*len(packed) + 1
		ahead := fmt.Sprintf("%d 0 obj\n%s", number, contentHead(number+1))
		if !strings.HasPrefix(s[at:], ahead) {
			break
		}
		at += len(ahead)
		text, took, _ := press.Unpack(s[at:])
		ops, ok := opsIn(text)
		if !ok || took == 0 {
			return d, false
		}
		d.Pages = append(d.Pages, api.Page{Ops: ops})
		packed = append(packed, s[at:at+took])
		at += took + len("\nendstream\nendobj\n") + len(fmt.Sprintf("%d 0 obj\n%d\nendobj\n", number+1, took))
	}
	rest := s[min(at, len(s)):]
	boxes := boxPattern.FindAllStringSubmatch(rest, -1)
	if len(boxes) != len(d.Pages) {
		return d, false
	}
	for i, m := range boxes {
		d.Pages[i].W, d.Pages[i].H = thousandths(m[1]), thousandths(m[2])
	}
	for _, m := range markPattern.FindAllStringSubmatch(rest, -1) {
		number, _ := strconv.Atoi(m[2])
		d.Marks = append(d.Marks, api.Mark{Title: unbracketed(m[1]), Page: number - 2*len(d.Pages) - 2})
	}
	if m := titlePattern.FindStringSubmatch(rest); m != nil {
		d.Title = unbracketed(m[1])
	}
	return d, isDocument(d) && fileOf(d, packed) == s
}

// isDocument tells whether all but the operations lies within its bounds.
func isDocument(d api.Document) bool {
	ok := len(d.Title) <= 100 && len(d.Pages) <= 80 && len(d.Marks) <= 20
	for _, p := range d.Pages {
		ok = ok && p.W >= 1 && p.W <= 14400000 && p.H >= 1 && p.H <= 14400000
	}
	least := 0
	for _, m := range d.Marks {
		ok = ok && len(m.Title) >= 1 && len(m.Title) <= 100 && m.Page >= least && m.Page < len(d.Pages)
		least = m.Page
	}
	return ok
}

// wantAsIs reads s as the second reading does; tells whether it is a file.
func wantAsIs(t *testing.T, name string, s string) bool {
	t.Helper()
	d, ok := documentIn(s)
	if ok {
		wantRead(t, name, s, d)
	} else {
		wantUnread(t, name, s)
	}
	return ok
}

// retabled gives a file whose objects were changed a table that fits them.
func retabled(s string) string {
	s = s[:strings.LastIndex(s, "xref\n0 ")]
	f := &fileText{text: s}
	catalog, info := 0, 0
	for at := 0; ; {
		number := len(f.begins) + 1
		i := strings.Index(s[at:], fmt.Sprintf("\n%d 0 obj\n", number))
		if i < 0 {
			break
		}
		at += i + 1
		f.begins = append(f.begins, at)
		body := s[at+len(fmt.Sprintf("%d 0 obj\n", number)):]
		if strings.HasPrefix(body, "<< /Type /Catalog") {
			catalog = number
		} else if i := titlePattern.FindStringIndex(body[:min(len(body), 500)]); i != nil && i[0] == 0 {
			info = number
		}
	}
	named := ""
	if info > 0 {
		named = fmt.Sprintf("/Info %d 0 R ", info)
	}
	f.tail(catalog, named)
	return f.text
}

// small has all that a file may have, in few bytes.
func small() api.Document {
	d := api.Document{Title: "t\\"}
	for i := range 9 {
		d.Pages = append(d.Pages, api.Page{W: 5000 + i, H: 7500})
	}
	d.Pages[0].Ops = []api.Op{aText, aLine}
	d.Pages[8].Ops = []api.Op{wholeImage(aFrame, "123456")}
	d.Marks = []api.Mark{{Title: "a)", Page: 0}, {Title: "b", Page: 3}, {Title: "c", Page: 8}}
	return d
}

func TestSecondReading(t *testing.T) {
	for name, d := range someDocuments() {
		s := fileBy(packAll, d)
		if got, ok := documentIn(s); !ok || !reflect.DeepEqual(listed(got), listed(d)) {
			t.Errorf("%s: %s, %v", name, shown(got), ok)
		}
		if retabled(s) != s {
			t.Errorf("%s: a new table is another one", name)
		}
	}
}

// P13: files of what is no document.
func TestReadWrongDocuments(t *testing.T) {
	long := strings.Repeat("x", api.MaxText+1)
	change := func(name string, f func(d *api.Document)) {
		d := small()
		f(&d)
		wantUnread(t, name, fileBy(packAll, d))
	}
	for _, n := range []int{math.MinInt + 1, -api.MaxPoint, -1, 0, api.MaxPoint + 1, 1<<32 + 1, math.MaxInt} {
		change(fmt.Sprint("the width ", n), func(d *api.Document) { d.Pages[0].W = n })
		change(fmt.Sprint("the height ", n), func(d *api.Document) { d.Pages[8].H = n })
	}
	for _, n := range []int{-2000000, -100, -2, -1, 9, 10, 11, 12, 13, 14, 15, 1000, 1 << 40} {
		change(fmt.Sprint("a mark of page ", n), func(d *api.Document) { d.Marks[2].Page = n })
		change(fmt.Sprint("a first mark of page ", n), func(d *api.Document) { d.Marks[0].Page = n })
		change(fmt.Sprint("one mark of page ", n), func(d *api.Document) { d.Marks = []api.Mark{{Title: "a", Page: n}} })
		change(fmt.Sprint("without pages a mark of page ", n), func(d *api.Document) { d.Pages, d.Marks = nil, []api.Mark{{Title: "a", Page: n}} })
	}
	change("without pages a mark", func(d *api.Document) { d.Pages, d.Marks = nil, []api.Mark{{Title: "a"}} })
	change("marks that go back", func(d *api.Document) { d.Marks[0].Page = 4 })
	change("marks that go back at last", func(d *api.Document) { d.Marks[2].Page = 2 })
	change("a mark without a title", func(d *api.Document) { d.Marks[1].Title = "" })
	change("a mark with a long title", func(d *api.Document) { d.Marks[1].Title = long })
	change("a long title", func(d *api.Document) { d.Title = long })
	change("a long title of strange bytes", func(d *api.Document) { d.Title = strings.Repeat("\xff", 101) })
	for name, o := range map[string]api.Op{
		"a wide line":    {Kind: 2, E: api.MaxPoint + 1},
		"a far text":     {Kind: 1, A: -api.MaxPoint - 1, C: 1},
		"a long text":    {Kind: 1, C: 1, S: long},
		"a great gray":   {Kind: 3, E: 1001},
		"a great image":  {Kind: 4, C: 1, D: 1, Cols: 65, Rows: 1, S: long[:65]},
		"an empty image": {Kind: 4, C: 1, D: 1},
		"too few bytes":  {Kind: 4, C: 1, D: 1, Cols: 2, Rows: 1, S: "x"},
		"too many bytes": {Kind: 4, C: 1, D: 1, Cols: 2, Rows: 1, S: "xxx"},
	} {
		change(name, func(d *api.Document) { d.Pages[3].Ops = []api.Op{aLine, o, aLine} })
	}
	for _, d := range []api.Document{small(), {Title: long[1:], Pages: small().Pages, Marks: []api.Mark{{Title: long[1:], Page: 8}, {Title: "x", Page: 8}}}} {
		wantRead(t, "what is right", fileBy(packAll, d), d)
	}
}

// P13: objects that are otherwise than they must be; the table fits them.
func TestReadWrongObjects(t *testing.T) {
	s := fileBy(packAll, small())
	for _, c := range [][2]string{
		{"%PDF-1.7\n", "%PDF-1.4\n"}, {"%PDF-1.7\n", "%PDF-1.7\n\n"}, {"%PDF-1.7\n", "%PDF-1.7\n%x\n"}, {"%PDF-1.7\n", "\n"}, {"%PDF", "%pdf"},
		{"<< /Filter", "<<  /Filter"}, {"/FlateDecode", "/LZWDecode"}, {"/FlateDecode /Length 2 0 R", "/FlateDecode /Length 3 0 R"}, {"/Length 4 0 R", "/Length 2 0 R"}, {"/Length 2 0 R", "/Length 2"},
		{"/Filter /FlateDecode /Length 2 0 R", "/Length 2 0 R /Filter /FlateDecode"}, {">>\nstream\n", ">>\nstream\r\n"}, {">>\nstream\n", ">>\nstream"}, {">>\nstream\n", "/X 1 >>\nstream\n"}, {"stream\nx", "stream\n\nx"},
		{"\nendstream\n", "\n\nendstream\n"}, {"\nendstream\n", "endstream\n"}, {"\nendstream\n", "\nendstream \n"}, {"endstream\nendobj\n2", "endobj\n2"},
		{"2 0 obj\n", "2 0 obj\n0"}, {"2 0 obj\n", "2 0 obj\n "}, {"2 0 obj\n", "2 0 obj\n-"}, {"4 0 obj\n", "4 0 obj\n1"}, {"\nendobj\n3 ", "\nendobj\n\n3 "}, {"\nendobj\n3 ", " \nendobj\n3 "}, {"\nendobj\n3 ", "\nendobj \n3 "},
		{"/Helvetica", "/Courier"}, {"/Type1", "/TrueType"}, {"/BaseFont /Helvetica >>", "/BaseFont /Helvetica /X 1 >>"},
		{"/Type /Page /Parent 29 0 R", "/Type /Page /Parent 30 0 R"}, {"/Type /Page /Parent 30 0 R", "/Type /Page /Parent 29 0 R"}, {"/Type /Page /Parent 29 0 R ", "/Type /Page "}, {"/Type /Page ", "/Type /Pages "}, {"/Type /Page ", ""},
		{"/MediaBox [0 0 5 7.5]", "/MediaBox [0 0 5 7.50]"}, {"/MediaBox [0 0 5 7.5]", "/MediaBox [0 0 5.0 7.5]"}, {"/MediaBox [0 0 5 7.5]", "/MediaBox [0 0 05 7.5]"}, {"/MediaBox [0 0 5 7.5]", "/MediaBox [0 0 +5 7.5]"},
		{"/MediaBox [0 0 5 7.5]", "/MediaBox [0 1 5 7.5]"}, {"/MediaBox [0 0 5 7.5]", "/MediaBox [1 0 5 7.5]"}, {"/MediaBox [0 0 5 7.5]", "/MediaBox [0 0 5]"}, {"/MediaBox [0 0 5 7.5]", "/MediaBox [0 0 5 7.5 8]"}, {"/MediaBox [0 0 5 7.5]", "/MediaBox [ 0 0 5 7.5]"},
		{"/MediaBox [0 0 5 7.5]", "/MediaBox [0 0 5 7.5 ]"}, {"/MediaBox [0 0 5 7.5]", "/MediaBox[0 0 5 7.5]"}, {"/MediaBox [0 0 5 7.5] ", ""}, {"/MediaBox [0 0 5 7.5]", "/MediaBox [0 0 -5 7.5]"}, {"/MediaBox [0 0 5 7.5]", "/MediaBox [0 0 (5) 7.5]"},
		{"/Contents 1 0 R", "/Contents 3 0 R"}, {"/Contents 3 0 R", "/Contents 1 0 R"}, {"/Contents 1 0 R", "/Contents 2 0 R"}, {"/Contents 1 0 R ", ""}, {"/Contents 1 0 R", "/Contents [1 0 R]"}, {"/F1 19 0 R", "/F1 18 0 R"}, {"/F1 19 0 R", "/F2 19 0 R"},
		{"/Kids [20 0 R 21 0 R", "/Kids [21 0 R 20 0 R"}, {"/Kids [20 0 R ", "/Kids ["}, {"/Kids [28 0 R]", "/Kids [28 0 R 27 0 R]"}, {"/Kids [28 0 R]", "/Kids []"}, {"/Kids [28 0 R]", "/Kids [28 0 R ]"}, {"/Kids [29 0 R 30 0 R]", "/Kids [30 0 R 29 0 R]"},
		{"/Count 8 ", "/Count 9 "}, {"/Count 1 ", "/Count 2 "}, {"/Count 9 ", "/Count 2 "}, {"/Parent 31 0 R /Kids", "/Kids"}, {"/Parent 31 0 R /Kids", "/Parent 30 0 R /Kids"}, {"/Pages /Kids [29", "/Pages /Parent 31 0 R /Kids [29"},
		{"/First 33", "/First 34"}, {"/Last 35", "/Last 34"}, {"/Count 3 ", "/Count 2 "}, {"/Outlines /First 33 0 R /Last 35 0 R", "/Outlines /Last 35 0 R /First 33 0 R"},
		{"(a\\))", "()"}, {"(a\\))", "(\\141\\))"}, {"(a\\))", "(a\\051)"}, {"(a\\))", "(a\\)"}, {"(a\\))", "(a))"}, {"(a\\))", "<61>"}, {"(a\\)) /Parent 32", "(a\\)) /Parent 31"}, {"/Parent 32 0 R /Next", "/Parent 32 0 R /Prev 32 0 R /Next"},
		{"/Next 34 0 R /Dest", "/Dest"}, {"/Next 34", "/Next 35"}, {"/Prev 33 0 R /Next 35 0 R", "/Next 35 0 R /Prev 33 0 R"}, {"/Prev 34 0 R /Dest", "/Dest"}, {"/Prev 34 0 R /Dest", "/Prev 34 0 R /Next 36 0 R /Dest"}, {"/Prev 33", "/Prev 32"},
		{"/Dest [20 0 R /Fit]", "/Dest [19 0 R /Fit]"}, {"/Dest [28 0 R /Fit]", "/Dest [29 0 R /Fit]"}, {"/Dest [28 0 R /Fit]", "/Dest [22 0 R /Fit]"}, {"/Dest [20 0 R /Fit]", "/Dest [20 0 R /Fit ]"}, {"/Dest [20 0 R /Fit]", "/Dest [020 0 R /Fit]"}, {"/Dest [20 0 R /Fit]", "/Dest 20 0 R"}, {"/Dest [20 0 R /Fit]", "/Dest [20 0 R /FitH]"}, {"/Dest [20 0 R /Fit]", "/Dest [20 1 R /Fit]"}, {" /Dest [20 0 R /Fit]", ""},
		{"<< /Title (t\\\\) >>", "<< /Title () >>"}, {"<< /Title (t\\\\) >>", "<< /Title (\\164) >>"}, {"<< /Title (t\\\\) >>", "<< /Title (t\\) >>"}, {"<< /Title (t\\\\) >>", "<< /Title (t) /Title (u) >>"}, {"<< /Title (t\\\\) >>", "<< >>"}, {"<< /Title (t\\\\) >>", "<< /Title(t) >>"}, {"<< /Title (t\\\\) >>", "<< /Author (t) >>"},
		{"/Pages 31 0 R", "/Pages 30 0 R"}, {"/Outlines 32 0 R >>", ">>"}, {"/Outlines 32 0 R >>", "/Outlines 33 0 R >>"}, {"/Catalog /Pages 31 0 R /Outlines 32 0 R", "/Catalog /Outlines 32 0 R /Pages 31 0 R"},
		{"37 0 obj\n", "37 0 obj\n<< >>\nendobj\n38 0 obj\n"}, {"19 0 obj\n", "19  0 obj\n"}, {"19 0 obj\n", "19 1 obj\n"}, {"19 0 obj\n", "019 0 obj\n"}, {"19 0 obj\n", "19 0 obj \n"}, {"19 0 obj\n", "20 0 obj\n"},
	} {
		x := retabled(strings.Replace(s, c[0], c[1], 1))
		if !strings.Contains(s, c[0]) {
			t.Errorf("the file has no %q", c[0])
		}
		if wantAsIs(t, fmt.Sprintf("%q for %q", c[1], c[0]), x) {
			t.Errorf("the second reading takes %q for %q", c[1], c[0])
		}
	}
	wantRead(t, "what is right", retabled(strings.Replace(s, "[0 0 5 7.5]", "[0 0 3.25 7.5]", 1)), func() api.Document {
		d := small()
		d.Pages[0].W = 3250
		return d
	}())
}

// P13: tables and trailers that are otherwise than they must be.
func TestReadWrongTables(t *testing.T) {
	s := fileBy(packAll, small())
	at := strings.LastIndex(s, "xref\n0 ")
	for _, c := range [][2]string{
		{"xref\n0 ", "xref \n0 "}, {"xref\n0 ", "\nxref\n0 "}, {"xref\n0 ", "xref\n1 "}, {"xref\n0 38\n", "xref\n0 37\n"}, {"xref\n0 38\n", "xref\n0 39\n"}, {"xref\n0 38\n", "xref\n0 038\n"}, {"xref\n0 38\n", ""},
		{"0000000000 65535 f \n", "0000000000 65535 f\n"}, {"0000000000 65535 f \n", "0000000001 65535 f \n"}, {"0000000000 65535 f \n", "0000000000 65534 f \n"}, {"0000000000 65535 f \n", "0000000000 65535 n \n"}, {"0000000000 65535 f \n", ""},
		{"0000000009 00000 n \n", "0000000010 00000 n \n"}, {"0000000009 00000 n \n", "0000000008 00000 n \n"}, {"0000000009 00000 n \n", "0000000009 00001 n \n"}, {"0000000009 00000 n \n", "0000000009 00000 f \n"}, {"0000000009 00000 n \n", "0000000009 00000 n\r\n"},
		{"0000000009 00000 n \n", ""}, {"0000000009 00000 n \n", "0000000009 00000 n \n0000000009 00000 n \n"}, {"0000000009 00000 n \n", "+000000009 00000 n \n"}, {"0000000009 00000 n \n", "-000000009 00000 n \n"}, {"0000000009 00000 n \n", "9999999999 00000 n \n"}, {"0000000009 00000 n \n", "9 00000 n          \n"}, {"0000000009 00000 n \n", "00000000x9 00000 n \n"},
		{"trailer\n", "trailer "}, {"trailer\n", ""}, {"/Size 38", "/Size 37"}, {"/Size 38", "/Size 39"}, {"/Root 37", "/Root 36"}, {"/Info 36 0 R >>", ">>"}, {"/Info 36", "/Info 37"}, {"/Info", "/Root"}, {"/Root 37 0 R /Info 36 0 R", "/Info 36 0 R /Root 37 0 R"}, {"<< /Size", "<</Size"},
		{"startxref\n", "startxref "}, {"startxref\n", "startxref\n\n"}, {"startxref\n", "startxref\n0"}, {"startxref\n", "startxref\n-"}, {"startxref\n", "startxref\n+"}, {"startxref\n", "startxref\n99999999999999999999"}, {"startxref\n", "startxref\n1"}, {"startxref\n", "startxref\nx"}, {"startxref\n", "startxref\n0\nstartxref\n"}, {"startxref\n", "xref\n"}, {"startxref\n", ""},
		{"%%EOF\n", "%%EOF"}, {"%%EOF\n", "%%EOF\n\n"}, {"%%EOF\n", "%%EOF\r\n"}, {"%%EOF\n", ""}, {"%%EOF\n", "%%EOF\n%%EOF\n"}, {"%%EOF\n", "\x00"},
	} {
		x := s[:at] + strings.Replace(s[at:], c[0], c[1], 1)
		if x == s {
			t.Errorf("the table has no %q", c[0])
		}
		wantUnread(t, fmt.Sprintf("%q for %q", c[1], c[0]), x)
	}
	wantUnread(t, "a byte ahead", " "+s)
	wantUnread(t, "twice", s+s)
	for i := range 38 {
		line := at + len("xref\n0 38\n") + 20*i
		for _, n := range []int{0, 9, line, at, len(s), len(s) + 1, math.MaxInt32} {
			if x := s[:line] + fmt.Sprintf("%010d", n) + s[line+10:]; x != s {
				wantUnread(t, fmt.Sprint("object ", i, " at ", n), x)
			}
		}
	}
}

// P13: a file that is changed at one place, whichever it is.
func TestReadChangedFiles(t *testing.T) {
	s := fileBy(packAll, api.Document{Title: "t", Pages: []api.Page{{W: 5000, H: 7500, Ops: []api.Op{aText}}, {W: 1, H: 1}}, Marks: []api.Mark{{Title: "a", Page: 0}, {Title: "b", Page: 1}}})
	fine := 0
	for i := range len(s) {
		wantUnread(t, fmt.Sprint("cut at ", i), s[:i])
		wantUnread(t, fmt.Sprint("from ", i+1), s[i+1:])
		changes := []string{s[:i] + s[i+1:], s[:i] + s[i:i+1] + s[i:], s[:i] + " " + s[i:], s[:i] + "\n" + s[i:], s[:i] + "1" + s[i:]}
		for _, c := range []byte{0, 1, 9, 10, 32, '0', '1', '2', '9', '(', ')', '\\', 'a', s[i] ^ 1, s[i] ^ 32, s[i] ^ 128, s[i] + 1, s[i] - 1} {
			changes = append(changes, s[:i]+string([]byte{c})+s[i+1:])
		}
		for _, x := range changes {
			if wantAsIs(t, fmt.Sprintf("changed at %d: %.40q", i, x[i:]), x) && x != s {
				fine++
			}
		}
	}
	if fine < 10 || fine > 300 {
		t.Errorf("%d changes make other files", fine)
	}
}

// P13: files that are changed at some places, with a table that fits.
func TestReadManyChangedFiles(t *testing.T) {
	fine := 0
	s := fileBy(packAll, small())
	from, to := strings.Index(s, "19 0 obj"), strings.LastIndex(s, "xref\n0 ")
	for seed := range int64(4000) {
		r := rand.New(rand.NewSource(seed))
		objects := s[from:to]
		for range 1 + r.Intn(2) {
			objects = changed(r, objects)
		}
		if wantAsIs(t, fmt.Sprint("seed ", seed), retabled(s[:from]+objects+s[to:])) {
			fine++
		}
	}
	if fine < 20 {
		t.Errorf("%d changes make other files", fine)
	}
}

// P1: Read of any bytes ends and does not panic.
func TestReadAnyBytes(t *testing.T) {
	whole := fileBy(packAll, small())
	pieces := []string{"%PDF-1.7\n", "1 0 obj\n", "\nendobj\n", "xref\n", "0 2\n", "0000000000 65535 f \n", "0000000009 00000 n \n", "0000000000 00000 n \n", "trailer\n", "startxref\n", "0\n", "9\n", "50\n", "%%EOF\n",
		"<< /Filter /FlateDecode /Length 2 0 R >>\nstream\n", "\nendstream", packAll(""), packAll(opText(aLine)), "<< /Type /Page /MediaBox [0 0 1 1] >>", "<< /Title (", ") /Dest [4 0 R", "<<", ">>", "[", "]", "(", ")", "\\", " ", "\n", "/Type", "/Page", "/MediaBox", "/Dest", "/Title"}
	for seed := range int64(3000) {
		r := rand.New(rand.NewSource(seed))
		x := ""
		for range r.Intn(30) {
			x += pieces[r.Intn(len(pieces))]
		}
		wantAsIs(t, fmt.Sprintf("%q", x), x)
		i, k := r.Intn(len(whole)), r.Intn(len(whole))
		wantAsIs(t, fmt.Sprint("seed ", seed), whole[:max(i, k)]+whole[min(i, k):])
		wantUnread(t, fmt.Sprint("bytes, seed ", seed), someBytes(seed, r.Intn(300), byteRange(0, 255)))
	}
	for _, x := range []string{"", "%", "%PDF-1.7\n", "startxref\n", "startxref\n0\n", "startxref\n0\n%%EOF\n", "xref\n0 1\nstartxref\n0\n", "\x00", strings.Repeat("%", 1<<20), strings.Repeat("startxref\n0\n", 1<<16), strings.Repeat("(", 1<<20), strings.Repeat("1 0 obj\n", 1<<17)} {
		wantUnread(t, fmt.Sprintf("%.40q", x), x)
	}
}

// P1: what is long ends soon too: tables of many lines, and many pages.
func TestReadLongBytes(t *testing.T) {
	for _, line := range []string{"0000000000 00000 n \n", "0000000009 00000 n \n", "0009999999 00000 n \n"} {
		table := "xref\n0 2\n0000000000 65535 f \n" + strings.Repeat(line, 200000)
		ahead := strings.Repeat("<< /Title (x) /Dest [1 ", 100000)
		wantUnread(t, "a long table", ahead+table+"trailer\nstartxref\n"+fmt.Sprint(len(ahead))+"\n%%EOF\n")
	}
	d := api.Document{}
	var packed []string
	full := packAll(strings.Repeat(opText(api.Op{Kind: api.Line}), api.MaxBytes/18))
	for range 300 {
		d.Pages = append(d.Pages, api.Page{W: 1, H: 1})
		packed = append(packed, full)
	}
	wantUnread(t, "far too many full pages", fileOf(d, packed))
}
