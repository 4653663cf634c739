package mime

import (
	"bytes"
	"encoding/base64"
	"fmt"
	"io"
	library "mime"
	"mime/multipart"
	"mime/quotedprintable"
	"net/mail"
	"reflect"
	"regexp"
	"slices"
	"strings"
	"testing"

	"scrapbook/api"
	"scrapbook/base"
	"scrapbook/header"
	"scrapbook/part"
	"scrapbook/quote"
)

// A second reading of the chapter: what the package answers is held against it.

// expectedText of a part that passed Check; each border is tried, from 1 on.
func expectedText(p api.Part) string {
	var s strings.Builder
	line := func(format string, l ...any) { fmt.Fprintf(&s, format+"\r\n", l...) }
	said := func() {
		if p.ID != "" {
			line("Content-ID: <%s>", p.ID)
		}
		if p.Location != "" {
			line("Content-Location: %s", p.Location)
		}
	}
	if len(p.Parts) == 0 {
		charset := ""
		if p.Charset != "" {
			charset = "; charset=" + p.Charset
		}
		line("Content-Type: %s%s", p.Type, charset)
		said()
		inBase, _ := base.Write(p.Body)
		inQuote, _ := quote.Write(p.Body)
		line("Content-Transfer-Encoding: %s", strings.Fields("8bit base64 quoted-printable")[p.How])
		return s.String() + "\r\n" + []string{string(p.Body), inBase, inQuote}[p.How]
	}
	texts := []string{}
	for _, q := range p.Parts {
		texts = append(texts, expectedText(q))
	}
	n := 1
	for slices.ContainsFunc(texts, func(s string) bool { return strings.Contains(s, fmt.Sprint("--=_", n)) }) {
		n++
	}
	line(`Content-Type: %s; boundary="=_%d"`, p.Type, n)
	said()
	line("")
	for _, text := range texts {
		line("--=_%d", n)
		line("%s", text)
	}
	line("--=_%d--", n)
	return s.String()
}

func expectedWrite(p api.Part) (string, api.Errno) {
	if e := part.Check(p); e != api.OK {
		return "", e
	}
	if s := expectedText(p); len(s) <= 40000 {
		return s, api.OK
	}
	return "", api.ErrMany
}

var (
	lineForm = regexp.MustCompile(`[^\n]*\n|[^\n]+\z`)
	tailForm = regexp.MustCompile(`[ \t\r\n]*\z`)
	endForm  = regexp.MustCompile(`\r?\n\z`)
)

// expectedSplit finds the lines with borders first, and then what stands between each two.
func expectedSplit(s, border string) ([]string, api.Errno) {
	if len(s) > 40000 {
		return nil, api.ErrMany
	}
	if len(border) < 1 || len(border) > 60 {
		return nil, api.ErrRange
	}
	var found [][]int
	for _, at := range lineForm.FindAllStringIndex(s, -1) {
		line := tailForm.ReplaceAllString(s[at[0]:at[1]], "")
		if line == "--"+border+"--" {
			var out []string
			found = append(found, at)
			for i, next := range found[1:] {
				out = append(out, endForm.ReplaceAllString(s[found[i][1]:next[0]], ""))
			}
			return out, api.OK
		}
		if line == "--"+border {
			found = append(found, at)
		}
	}
	return nil, api.ErrText
}

// expectedRead leaves by a panic where the first error is.
func expectedRead(b []byte) (p api.Part, e api.Errno) {
	defer func() {
		if x := recover(); x != nil {
			p, e = api.Part{}, x.(api.Errno)
		}
	}()
	must := func(e api.Errno) {
		if e != api.OK {
			panic(e)
		}
	}
	may := func(ok bool, e api.Errno) {
		if !ok {
			panic(e)
		}
	}
	may(len(b) <= 40000, api.ErrMany)
	left := 12
	var one func(b []byte, levels int) api.Part
	one = func(b []byte, levels int) (p api.Part) {
		may(left > 0 && levels > 0, api.ErrMany)
		left--
		fields, body, e := header.Parse(b)
		must(e)
		said := header.Get(fields, "content-type")
		if said == "" {
			said = "text/plain"
		}
		kind, params, e := header.Params(said)
		must(e)
		p.Type, p.ID, p.Location = kind, header.Get(fields, "content-id"), header.Get(fields, "content-location")
		p.ID = regexp.MustCompile(`\A<(.*)>\z`).ReplaceAllString(p.ID, "$1")
		behind := string(b[body:])
		if part.Many(kind) {
			pieces, e := expectedSplit(behind, header.Get(params, "boundary"))
			must(e)
			for _, piece := range pieces {
				p.Parts = append(p.Parts, one([]byte(piece), levels-1))
			}
			return p
		}
		p.Charset = header.Get(params, "charset")
		how, ok := map[string]int{"": 0, "7bit": 0, "8bit": 0, "binary": 0, "base64": 1, "quoted-printable": 2}[strings.ToLower(header.Get(fields, "content-transfer-encoding"))]
		may(ok, api.ErrForm)
		p.How = how
		switch how {
		case 0:
			may(len(behind) <= 4000, api.ErrMany)
			p.Body = []byte(behind)
		case 1:
			p.Body, e = base.Read(behind)
		case 2:
			p.Body, e = quote.Read(behind)
		}
		must(e)
		return p
	}
	p = one(b, 3)
	must(part.Check(p))
	return p, api.OK
}

// told is the beginning of what a part says, for a message.
func told(p api.Part) string { return fmt.Sprintf("%.300s", fmt.Sprintf("%+v", p)) }

// wantWrite holds Write of p against the second reading, and Read of it against p.
func wantWrite(t *testing.T, p api.Part) {
	t.Helper()
	b, e := Write(p)
	want, wantErr := expectedWrite(p)
	if e != wantErr || string(b) != want {
		t.Fatalf("Write(%s): %.600q, %d; want %.600q, %d", told(p), b, e, want, wantErr)
	}
	if e != api.OK {
		if b != nil {
			t.Fatalf("Write(%s): error %d, and a list", told(p), e)
		}
		return
	}
	if q, e := Read(b); e != api.OK || !part.Same(p, q) {
		t.Fatalf("Read of Write(%s): %s, %d", told(p), told(q), e)
	}
}

func wantSplit(t *testing.T, s, border string) {
	t.Helper()
	l, e := Split([]byte(s), border)
	want, wantErr := expectedSplit(s, border)
	if e != wantErr || !slices.EqualFunc(l, want, func(b []byte, s string) bool { return string(b) == s }) {
		t.Fatalf("Split(%.300q, %q): %.300q, %d; want %.300q, %d", s, border, l, e, want, wantErr)
	}
	if e != api.OK && l != nil {
		t.Fatalf("Split(%.300q, %q): error %d, and a list", s, border, e)
	}
}

// wantRead holds Read of s against the second reading; what is read, if it can be written, is read again.
func wantRead(t *testing.T, s string) (api.Part, api.Errno) {
	t.Helper()
	p, e := Read([]byte(s))
	want, wantErr := expectedRead([]byte(s))
	if e != wantErr || !part.Same(p, want) {
		t.Fatalf("Read(%.600q): %s, %d; want %s, %d", s, told(p), e, told(want), wantErr)
	}
	if e != api.OK && !reflect.DeepEqual(p, api.Part{}) {
		t.Fatalf("Read(%.600q): error %d, and %s", s, e, told(p))
	}
	if e == api.OK {
		if b, e := Write(p); e == api.OK {
			if q, e := Read(b); e != api.OK || !part.Same(p, q) {
				t.Fatalf("Read of Write of Read(%.600q): %s, %d; want %s", s, told(q), e, told(p))
			}
		} else if e != api.ErrMany {
			t.Fatalf("Write of Read(%.600q): %d", s, e)
		}
	}
	return p, e
}

func wantReadError(t *testing.T, s string, want api.Errno) {
	t.Helper()
	if _, e := wantRead(t, s); e != want {
		t.Fatalf("Read(%.600q): %d; want %d", s, e, want)
	}
}

// allTexts hands use each text of up to most of the pieces.
func allTexts(pieces []string, most int, use func(s string)) {
	use("")
	if most == 0 {
		return
	}
	var more func(s string, left int)
	more = func(s string, left int) {
		for _, x := range pieces {
			use(s + x)
			if left > 1 {
				more(s+x, left-1)
			}
		}
	}
	more("", most)
}

func many(l ...api.Part) api.Part { return api.Part{Type: "multipart/x", Parts: l} }

func plain(body string) api.Part { return api.Part{Type: "a/b", Body: []byte(body)} }

func leaves(n int) []api.Part {
	var l []api.Part
	for i := range n {
		l = append(l, plain(fmt.Sprint(i)))
	}
	return l
}

// manyText is the text of a part of parts, with a border of its own.
func manyText(border string, texts ...string) string {
	s := "Content-Type: multipart/x; boundary=" + border + "\n\n"
	for _, text := range texts {
		s += "--" + border + "\n" + text + "\n"
	}
	return s + "--" + border + "--\n"
}

// tree with something in each field, and three levels.
func tree() api.Part {
	return api.Part{Type: "multipart/related", ID: "top", Location: "http://h/a/b", Parts: []api.Part{
		{Type: "text/html", Charset: "UTF-8", How: api.Quoted, Body: []byte("<a href='c'>\r\n")},
		{Type: "multipart/mixed", Location: "d/", Parts: []api.Part{
			{Type: "image/png", ID: "x", Location: "c", How: api.Base64, Body: []byte{1, 2, 3}},
			{Type: "text/plain"},
		}},
		{Type: "a/b", Body: []byte("last")},
	}}
}

const treeText = "Content-Type: multipart/related; boundary=\"=_2\"\r\n" +
	"Content-ID: <top>\r\n" +
	"Content-Location: http://h/a/b\r\n" +
	"\r\n" +
	"--=_2\r\n" +
	"Content-Type: text/html; charset=UTF-8\r\n" +
	"Content-Transfer-Encoding: quoted-printable\r\n" +
	"\r\n" +
	"<a=20href=3D'c'>=0D=0A\r\n" +
	"--=_2\r\n" +
	"Content-Type: multipart/mixed; boundary=\"=_1\"\r\n" +
	"Content-Location: d/\r\n" +
	"\r\n" +
	"--=_1\r\n" +
	"Content-Type: image/png\r\n" +
	"Content-ID: <x>\r\n" +
	"Content-Location: c\r\n" +
	"Content-Transfer-Encoding: base64\r\n" +
	"\r\n" +
	"AQID\r\n" +
	"--=_1\r\n" +
	"Content-Type: text/plain\r\n" +
	"Content-Transfer-Encoding: 8bit\r\n" +
	"\r\n" +
	"\r\n" +
	"--=_1--\r\n" +
	"\r\n" +
	"--=_2\r\n" +
	"Content-Type: a/b\r\n" +
	"Content-Transfer-Encoding: 8bit\r\n" +
	"\r\n" +
	"last\r\n" +
	"--=_2--\r\n"

func TestWriteOfATree(t *testing.T) {
	b, e := Write(tree())
	if e != api.OK || string(b) != treeText {
		t.Errorf("Write: %q, %d", b, e)
	}
	wantWrite(t, tree())
	if p, e := Read([]byte(treeText)); e != api.OK || !part.Same(p, tree()) {
		t.Errorf("Read: %s, %d", told(p), e)
	}
	// Lines may be ended by a line feed alone; only the Bodies would tell, and these here have no lines of their own.
	if p, e := Read([]byte(strings.ReplaceAll(treeText, "\r\n", "\n"))); e != api.OK || !part.Same(p, tree()) {
		t.Errorf("Read without returns: %s, %d", told(p), e)
	}
}

func TestWriteSaysWhatAPartIs(t *testing.T) {
	for _, c := range []struct {
		p    api.Part
		want string
	}{
		{api.Part{Type: "a/b"}, "Content-Type: a/b\r\nContent-Transfer-Encoding: 8bit\r\n\r\n"},
		{api.Part{Type: "a/b", Body: []byte("\x00\xff\n\r\n=")}, "Content-Type: a/b\r\nContent-Transfer-Encoding: 8bit\r\n\r\n\x00\xff\n\r\n="},
		{api.Part{Type: "a/b", Charset: "C", ID: "i", Location: "l", How: api.Base64, Body: []byte("Ma")}, "Content-Type: a/b; charset=C\r\nContent-ID: <i>\r\nContent-Location: l\r\nContent-Transfer-Encoding: base64\r\n\r\nTWE="},
		{api.Part{Type: "a/b", How: api.Quoted, Body: []byte("M a")}, "Content-Type: a/b\r\nContent-Transfer-Encoding: quoted-printable\r\n\r\nM=20a"},
		{api.Part{Type: "a/b", Location: "l", How: api.Quoted}, "Content-Type: a/b\r\nContent-Location: l\r\nContent-Transfer-Encoding: quoted-printable\r\n\r\n"},
		{api.Part{Type: "multipart/y", ID: "i", Parts: leaves(1)}, "Content-Type: multipart/y; boundary=\"=_1\"\r\nContent-ID: <i>\r\n\r\n--=_1\r\nContent-Type: a/b\r\nContent-Transfer-Encoding: 8bit\r\n\r\n0\r\n--=_1--\r\n"},
	} {
		if b, e := Write(c.p); e != api.OK || string(b) != c.want {
			t.Errorf("Write(%s): %q, %d; want %q", told(c.p), b, e, c.want)
		}
		wantWrite(t, c.p)
	}
}

func TestWriteOfAllFields(t *testing.T) {
	long := strings.Repeat("l", 120)
	for _, kind := range []string{"a/b", "text/html", strings.Repeat("t", 30) + "/" + strings.Repeat("s", 30), "!/~", "multipart/x", "multipart/" + strings.Repeat("s", 30)} {
		for _, charset := range []string{"", "UTF-8", long[:30]} {
			for _, id := range []string{"", "i", "a@b", "=?;:,'", long, "a\"", "<a>"} {
				for _, location := range []string{"", "l", "--=_1", "http://h/a?b;c=d#e", long, long + "l"} {
					for how := api.Plain; how <= api.Quoted; how++ {
						for _, body := range []string{"", "x", "\n", "\r", "\r\n", "\r\r\n\n", " \t", "--=_1", "=", "--", strings.Repeat("\x80", 4000)} {
							p := api.Part{Type: kind, Charset: charset, ID: id, Location: location, How: how, Body: []byte(body)}
							wantWrite(t, p)
							wantWrite(t, many(p))
							p.Parts = leaves(1)
							wantWrite(t, p)
						}
					}
				}
			}
		}
	}
}

func TestWriteOfWrongParts(t *testing.T) {
	for want, l := range map[api.Errno][]api.Part{
		api.ErrText:  {{}, {Type: "a"}, {Type: "A/b"}, {Type: "a/b", Charset: "a b"}, {Type: "a/b", ID: "<x>"}, {Type: "a/b", Location: "a b"}, {Type: "a/b\r\nX: y"}, {Type: "a/b", Location: "x\r\nX:y"}},
		api.ErrRange: {{Type: "a/b", How: -1}, {Type: "a/b", How: 3}},
		api.ErrMany:  {{Type: "a/b", Body: make([]byte, 4001)}, many(leaves(12)...), many(many(many(leaves(1)...)))},
		api.ErrForm:  {many(), {Type: "a/b", Parts: leaves(1)}, {Type: "multipart/x", Charset: "c", Parts: leaves(1)}, {Type: "multipart/x", How: 1, Parts: leaves(1)}, {Type: "multipart/x", Body: []byte("b"), Parts: leaves(1)}},
	} {
		for _, p := range l {
			for _, q := range []api.Part{p, many(p), many(leaves(1)[0], p)} {
				if b, e := Write(q); b != nil || e != want {
					t.Errorf("Write(%s): %q, %d; want %d", told(q), b, e, want)
				}
			}
		}
	}
	// Check's error is told, though the text would be too much, too.
	l := make([]api.Part, 10)
	for i := range l {
		l[i] = api.Part{Type: "a/b", How: api.Quoted, Body: make([]byte, 4000)}
	}
	if b, e := Write(many(append(l, api.Part{Type: "a/b", How: 9})...)); b != nil || e != api.ErrRange {
		t.Errorf("Write: %d bytes, %d", len(b), e)
	}
}

func TestWriteLimit(t *testing.T) {
	x := func(n int) api.Part { return plain(strings.Repeat("x", n)) }
	for i, shape := range []func(last api.Part) api.Part{
		func(last api.Part) api.Part {
			return many(append(slices.Repeat([]api.Part{x(3600)}, 10), last)...)
		},
		func(last api.Part) api.Part {
			full := slices.Repeat([]api.Part{x(3950)}, 5)
			return many(append(full, many(append(full[:4:4], last)...))...)
		},
		func(last api.Part) api.Part {
			return many(many(append(slices.Repeat([]api.Part{x(3950)}, 9), last)...))
		},
	} {
		b, _ := Write(shape(x(0)))
		room := 40000 - len(b)
		if b == nil || room < 0 || room > 4000 {
			t.Fatalf("bundle %d: %d bytes", i, len(b))
		}
		wantWrite(t, shape(x(room)))
		if b, e := Write(shape(x(room))); e != api.OK || len(b) != 40000 {
			t.Errorf("bundle %d: %d bytes, error %d", i, len(b), e)
		}
		wantWrite(t, shape(x(room+1)))
		if b, e := Write(shape(x(room + 1))); b != nil || e != api.ErrMany {
			t.Errorf("bundle %d: %d bytes, error %d; want %d", i, len(b), e, api.ErrMany)
		}
	}
	wide := slices.Repeat([]api.Part{{Type: "a/b", How: api.Quoted, Body: make([]byte, 4000)}}, 11)
	wantWrite(t, many(wide[:3]...))
	wantWrite(t, many(wide[:4]...))
	wantWrite(t, many(wide...))
	wantWrite(t, many(many(wide[:10]...)))
}

func TestBorders(t *testing.T) {
	low, high := "", ""
	for n := range 300 {
		low += fmt.Sprint("--=_", n)
		high += fmt.Sprint("--=_", 599-n)
	}
	tens := ""
	for n := 10; n <= 99; n++ {
		tens += fmt.Sprint("--=_", n, "\r\n")
	}
	nines := strings.Repeat("9", 3000)
	for _, c := range []struct {
		want  int
		parts []api.Part
	}{
		{1, []api.Part{plain("")}},
		{2, []api.Part{plain("--=_1")}},
		{2, []api.Part{plain("x--=_1x")}},
		{2, []api.Part{plain("----=_1")}},
		{2, []api.Part{plain("--=_--=_1")}},
		{1, []api.Part{plain("-=_1")}},
		{1, []api.Part{plain("--=_")}},
		{1, []api.Part{plain("--=_x1 --=_ 1 --=_2")}},
		{1, []api.Part{plain("--=_01 --=_0 --=_001")}},
		{3, []api.Part{plain("--=_2 --=_1")}},
		{2, []api.Part{plain("--=_1"), plain("--=_1 --=_3")}},
		{4, []api.Part{plain("--=_3"), plain("--=_1"), plain("--=_2")}},
		{2, []api.Part{plain("--=_12 --=_123")}},
		{3, []api.Part{plain("--=_12 --=_2x")}},
		{1, []api.Part{plain("--="), plain("_1")}},
		{600, []api.Part{plain(high), plain(low)}},
		{100, []api.Part{plain(tens)}},
		{2, []api.Part{plain("--=_18446744073709551617")}},
		{1, []api.Part{plain("--=_2--=_36893488147419103233")}},
		{1, []api.Part{plain("--=_8--=_92233720368547758081")}},
		{1, []api.Part{plain("--=_" + nines)}},
		{2, []api.Part{plain("--=_1000000 --=_" + nines)}},
		{2, []api.Part{{Type: "a/b", Location: "x--=_1"}}},
		{2, []api.Part{{Type: "a/b", ID: "--=_1"}}},
		{1, []api.Part{{Type: "a/b", How: api.Base64, Body: []byte("--=_1")}, {Type: "a/b", How: api.Quoted, Body: []byte("--=_1")}}},
		{2, []api.Part{many(plain(""))}},
		{3, []api.Part{many(plain("--=_1"))}},
		{3, []api.Part{many(plain("--=_1")), plain("--=_1")}},
		{2, []api.Part{many(plain("")), many(plain(""))}},
		{3, []api.Part{many(plain("")), many(plain("--=_1"))}},
		{1, []api.Part{plain("=_1"), plain("boundary=\"=_1\"")}},
	} {
		p := many(c.parts...)
		// What the part itself says is no text of its Parts.
		p.Location, p.ID = "--=_1--=_2", fmt.Sprint("--=_", c.want)
		want := fmt.Sprintf("Content-Type: multipart/x; boundary=\"=_%d\"\r\n", c.want)
		if b, e := Write(p); e != api.OK || !strings.HasPrefix(string(b), want) {
			t.Errorf("Write(%s): %.100q, %d; want %q", told(p), b, e, want)
		}
		wantWrite(t, p)
	}
}

func TestManyBorders(t *testing.T) {
	var l []api.Part
	for n := 1; len(l) < 9; {
		body := ""
		for len(body) < 3950 {
			body += fmt.Sprint("--=_", n, ".")
			n++
		}
		l = append(l, plain(body))
	}
	wantWrite(t, many(many(l...)))
}

func TestWriteOfAllBodies(t *testing.T) {
	allTexts([]string{"--=_", "1", "2", "\r", "\n", "-"}, 5, func(s string) {
		wantWrite(t, many(plain(s), plain("")))
		wantWrite(t, many(many(plain(s)), plain("--=_1")))
	})
	for c := range 256 {
		for how := api.Plain; how <= api.Quoted; how++ {
			wantWrite(t, many(api.Part{Type: "a/b", How: how, Body: []byte{byte(c)}}, api.Part{Type: "a/b", How: how, Body: []byte{'x', byte(c)}}))
		}
	}
}

// allTrees hands use each list of trees of n parts in all, of up to deep levels.
func allTrees(n, deep int, use func(l []api.Part)) {
	if n == 0 {
		use(nil)
		return
	}
	if deep == 0 {
		return
	}
	for first := range n {
		allTrees(first, deep-1, func(inner []api.Part) {
			p := api.Part{Type: "a/b", ID: fmt.Sprint(n), How: n % 3, Body: []byte("--=_1\r")}
			if inner != nil {
				p = api.Part{Type: "multipart/x", Location: fmt.Sprint(n), Parts: inner}
			}
			allTrees(n-1-first, deep, func(l []api.Part) { use(append([]api.Part{p}, l...)) })
		})
	}
}

func TestWriteOfAllTrees(t *testing.T) {
	for n := 1; n <= 7; n++ {
		allTrees(n, 3, func(l []api.Part) {
			wantWrite(t, many(l...))
			wantWrite(t, l[0])
		})
	}
}

// What the library reads is what was written.
func TestLibraryReadsWhatIsWritten(t *testing.T) {
	p := tree()
	p.Parts = append(p.Parts, plain("a\r\nb\r\n\r\n"), api.Part{Type: "a/b", How: api.Base64, Body: bytes.Repeat([]byte("wide"), 100)}, api.Part{Type: "a/b", How: api.Quoted, Body: bytes.Repeat([]byte("w\xe9\n"), 100)}, plain("--=_1 --=_2"))
	b, e := Write(p)
	if e != api.OK {
		t.Fatalf("Write: %d", e)
	}
	m, err := mail.ReadMessage(bytes.NewReader(b))
	if err != nil {
		t.Fatal(err)
	}
	if q := byLibrary(t, m.Header.Get, m.Body); !part.Same(p, q) {
		t.Errorf("the library reads %s; want %s", told(q), told(p))
	}
}

func byLibrary(t *testing.T, get func(name string) string, r io.Reader) api.Part {
	t.Helper()
	kind, params, err := library.ParseMediaType(get("Content-Type"))
	if err != nil {
		t.Fatal(err)
	}
	p := api.Part{Type: kind, Charset: params["charset"], ID: strings.Trim(get("Content-ID"), "<>"), Location: get("Content-Location")}
	if params["boundary"] == "" {
		switch get("Content-Transfer-Encoding") {
		case "base64":
			p.How, r = api.Base64, base64.NewDecoder(base64.StdEncoding, r)
		case "quoted-printable":
			p.How, r = api.Quoted, quotedprintable.NewReader(r)
		}
		if p.Body, err = io.ReadAll(r); err != nil {
			t.Fatal(err)
		}
		return p
	}
	for l := multipart.NewReader(r, params["boundary"]); ; {
		piece, err := l.NextRawPart()
		if err == io.EOF {
			return p
		}
		if err != nil {
			t.Fatal(err)
		}
		p.Parts = append(p.Parts, byLibrary(t, piece.Header.Get, piece))
	}
}

func TestSplitOrdinary(t *testing.T) {
	for s, want := range map[string][]string{
		"--b--":                            {},
		"--b--\nx":                         {},
		"x\n--b--\n--b\n":                  {},
		"--b\n--b--":                       {""},
		"--b\n\n--b--":                     {""},
		"--b\r\n\r\n--b--\r\n":             {""},
		"--b\n\n\n--b--":                   {"\n"},
		"--b\n\r\r\n--b--":                 {"\r"},
		"--b\nx\n\r\n--b--":                {"x\n"},
		"--b\nx\n--b--":                    {"x"},
		"--b\r\nx\r\n--b--\r\n":            {"x"},
		"--b\nx\r\r\n--b--":                {"x\r"},
		"a\n--b\nx\n--b\ny\n--b--\nz\n--b": {"x", "y"},
		"--b \t\r\nx\n--b-- \t\r":          {"x"},
		"--b\r\r\nx\n--b--\r\r\n":          {"x"},
		" --b\n--b\n --b\n--b--":           {" --b"},
		"--b\n--bb\n--b-\n--b---\n--b --\n--B\n---b\n--b--": {"--bb\n--b-\n--b---\n--b --\n--B\n---b"},
		"--b\nx--b\n--b--":                     {"x--b"},
		"--b\nx--b--\ny\n--b--\n--b\nz\n--b--": {"x--b--\ny"},
		"--b\n--b\n--b\n--b--":                 {"", "", ""},
		"--b\n\x00\xff\x0b--b\f\n--b--":        {"\x00\xff\x0b--b\f"},
		"--b\n--b\f\n--b\v\n--b--":             {"--b\f\n--b\v"},
	} {
		l, e := Split([]byte(s), "b")
		if e != api.OK || !slices.EqualFunc(l, want, func(b []byte, s string) bool { return string(b) == s }) {
			t.Errorf("Split(%q): %q, %d; want %q", s, l, e, want)
		}
		wantSplit(t, s, "b")
	}
}

func TestSplitWithoutEnd(t *testing.T) {
	for _, s := range []string{"", "\n", "b", "--", "--b", "--b\n", "--b\nx\n", "--b\nx\n--b", "--b--x", " --b--", "x--b--", "--b --", "--b-", "-b--", "--B--", "--b\r--", "--b--\v", "--b--\x00", "----"} {
		if l, e := Split([]byte(s), "b"); l != nil || e != api.ErrText {
			t.Errorf("Split(%q): %q, %d", s, l, e)
		}
		wantSplit(t, s, "b")
	}
	if l, e := Split(nil, "b"); l != nil || e != api.ErrText {
		t.Errorf("Split of nothing: %q, %d", l, e)
	}
}

func TestSplitBorders(t *testing.T) {
	for n := range 70 {
		border := strings.Repeat("b", n)
		want := api.OK
		if n < 1 || n > 60 {
			want = api.ErrRange
		}
		s := "--" + border + "\nx\n--" + border + "--\n"
		if l, e := Split([]byte(s), border); e != want || e == api.OK && (len(l) != 1 || string(l[0]) != "x") {
			t.Errorf("Split, border of %d bytes: %q, %d; want %d", n, l, e, want)
		}
		wantSplit(t, s, border)
		wantSplit(t, s, border+"b")
		wantSplit(t, s, strings.Repeat("b", max(0, n-1)))
		wantSplit(t, "", border)
	}
	// No line ends with blanks, when they are left out; none has a line feed within.
	for _, border := range []string{"b", "bb", "b--", "--", "-", "--b", "b ", " b", " ", "\t", "b\r", "b\n", "b\nb", "\n", "a b", "é", "\xff", "=_1"} {
		for _, more := range []string{"", " ", "\r", "--", "\v"} {
			for _, end := range []string{"--", "---", "----", ""} {
				wantSplit(t, "--"+border+more+"\nx\n--"+border+"\ny\n--"+border+end+more+"\n--"+border+"----", border)
			}
		}
	}
}

func TestSplitErrorsInOrder(t *testing.T) {
	for _, n := range []int{39999, 40000, 40001, 50000} {
		s := "--b\n" + strings.Repeat("x", n-10) + "\n--b--"
		want := api.OK
		if n > 40000 {
			want = api.ErrMany
		}
		if l, e := Split([]byte(s), "b"); e != want || e == api.OK && len(l[0]) != n-10 {
			t.Errorf("Split of %d bytes: %d", len(s), e)
		}
		wantSplit(t, s, "b")
		if _, e := Split([]byte(s), ""); want == api.ErrMany && e != want || want == api.OK && e != api.ErrRange {
			t.Errorf("Split of %d bytes, no border: %d", len(s), e)
		}
		wantSplit(t, strings.Repeat("x", n), strings.Repeat("b", 61))
		wantSplit(t, strings.Repeat("\n", n), "b")
		wantSplit(t, strings.Repeat(" ", n), "b")
	}
	wantSplit(t, strings.Repeat("--b\n", 9998)+"--b--", "b")
	if l, e := Split([]byte(strings.Repeat("--b\n", 9998)+"--b--"), "b"); e != api.OK || len(l) != 9998 {
		t.Errorf("Split: %d parts, %d", len(l), e)
	}
}

func TestSplitOfAllTexts(t *testing.T) {
	allTexts([]string{"--b", "--", "x", " ", "\r", "\n", "\n--b"}, 6, func(s string) {
		wantSplit(t, s, "b")
		wantSplit(t, s+"\n--b--", "b")
		wantSplit(t, "--b\n"+s+"\n--b--", "b")
	})
	allTexts([]string{"-", "\n", "\r", " "}, 8, func(s string) { wantSplit(t, s, "-") })
	for c := range 256 {
		one := string([]byte{byte(c)})
		for _, s := range []string{"--b\nx\n--b--" + one, "--b\nx\n" + one + "--b--", "--b" + one + "\nx\n--b--", "--b\nx" + one + "\n--b--", one + "--b\nx\n--b--", "--b\nx\n--b" + one + "--"} {
			wantSplit(t, s, "b")
		}
		wantSplit(t, "--"+one+"\nx\n--"+one+"--", one)
	}
}

func TestReadOrdinary(t *testing.T) {
	for s, want := range map[string]api.Part{
		"\n":                              {Type: "text/plain"},
		"\r\n\r\n":                        {Type: "text/plain", Body: []byte("\r\n")},
		"\nx\n":                           {Type: "text/plain", Body: []byte("x\n")},
		"X: y\n\n\x00\xff":                {Type: "text/plain", Body: []byte("\x00\xff")},
		"Content-Type: \n\nx":             {Type: "text/plain", Body: []byte("x")},
		"Content-Type:\n\nx":              {Type: "text/plain", Body: []byte("x")},
		"content-type: TEXT/Html\n\nx":    {Type: "text/html", Body: []byte("x")},
		"Content-Type: a/b;charset=C\n\n": {Type: "a/b", Charset: "C"},
		"Content-Type: a/b; x=y; CHARSET = \"u-8\" ; charset=z\n\n": {Type: "a/b", Charset: "u-8"},
		"Content-Type: a/b;\n charset=C\n\n":                        {Type: "a/b", Charset: "C"},
		"Content-Type: a/b; charset=\"\"\n\n":                       {Type: "a/b"},
		"Content-Type: a/b; boundary=b\n\n--b--\n":                  {Type: "a/b", Body: []byte("--b--\n")},
		"Content-Type: a/b\nContent-Type: c/d\n\n":                  {Type: "a/b"},
		"Content-Type: \nContent-Type: c/d\n\n":                     {Type: "text/plain"},
		"Content-ID: <x>\n\n":                                       {Type: "text/plain", ID: "x"},
		"CONTENT-id: x\n\n":                                         {Type: "text/plain", ID: "x"},
		"Content-ID: <>\n\n":                                        {Type: "text/plain"},
		"Content-Location: l\nContent-ID:\n\n":                      {Type: "text/plain", Location: "l"},
		"Content-Transfer-Encoding: 7BIT\n\n=20":                    {Type: "text/plain", Body: []byte("=20")},
		"Content-Transfer-Encoding: 8bit\n\n=20":                    {Type: "text/plain", Body: []byte("=20")},
		"Content-Transfer-Encoding: Binary\n\n=20":                  {Type: "text/plain", Body: []byte("=20")},
		"Content-Transfer-Encoding: \n\n=20":                        {Type: "text/plain", Body: []byte("=20")},
		"Content-Transfer-Encoding: Quoted-Printable\n\n=20\n":      {Type: "text/plain", How: api.Quoted, Body: []byte(" \r\n")},
		"Content-Transfer-Encoding: BASE64\n\nTW\nE=\n":             {Type: "text/plain", How: api.Base64, Body: []byte("Ma")},
		"Content-Transfer-Encoding: base64\n\n":                     {Type: "text/plain", How: api.Base64},
		"Content-Type: Multipart/X; boundary=b\nContent-Transfer-Encoding: z\n\npre\n--b\n\nx\n--b\n\ny\n\n--b--\npost":             {Type: "multipart/x", Parts: []api.Part{{Type: "text/plain", Body: []byte("x")}, {Type: "text/plain", Body: []byte("y\n")}}},
		"Content-Type: multipart/x; charset=c; BOUNDARY=\"a b;c\"\nContent-ID: <i>\nContent-Location: l\n\n--a b;c\n\nx\n--a b;c--": {Type: "multipart/x", ID: "i", Location: "l", Parts: []api.Part{{Type: "text/plain", Body: []byte("x")}}},
		"Content-Type: multipart/x; boundary=b; boundary=c\n\n--c\n\n\n--c--\n--b\n\n\n--b--":                                       {Type: "multipart/x", Parts: []api.Part{{Type: "text/plain"}}},
		// The borders of the part around are looked for first, wherever they stand; the inner ones may be the same only where nothing of them is left over.
		manyText("a", manyText("b", "\nx"), "\ny"): many(many(api.Part{Type: "text/plain", Body: []byte("x")}), api.Part{Type: "text/plain", Body: []byte("y")}),
	} {
		p, e := wantRead(t, s)
		if e != api.OK || !part.Same(p, want) {
			t.Errorf("Read(%q): %s, %d; want %s", s, told(p), e, told(want))
		}
	}
}

func TestReadWrong(t *testing.T) {
	long := strings.Repeat("l", 121)
	for s, want := range map[string]api.Errno{
		"":                                  api.ErrText,
		"x":                                 api.ErrText,
		"A: b":                              api.ErrText,
		"A: b\n":                            api.ErrText,
		"x\n\n":                             api.ErrText,
		" x\n\n":                            api.ErrText,
		"a b: c\n\n":                        api.ErrText,
		"A: \xe9\n\n":                       api.ErrText,
		"A: b\n\x00: c\n\n":                 api.ErrText,
		"A: b\nContent-Type":                api.ErrText,
		strings.Repeat("A: b\n", 20) + "\n": api.OK,
		strings.Repeat("A: b\n", 21) + "\n": api.ErrMany,

		"Content-Type: a\n\n":                                     api.ErrText,
		"Content-Type: a/b; c\n\n":                                api.ErrText,
		"Content-Type: a/b;\n\n":                                  api.ErrText,
		"Content-Type: ;charset=c\n\n":                            api.ErrText,
		"Content-Type: a/b/c\n\n":                                 api.ErrText,
		"Content-Type: a /b\n\n":                                  api.ErrText,
		"Content-Type: a/b; charset=\"a b\"\n\n":                  api.ErrText,
		"Content-Type: a/b; charset=\"" + long[:31] + "\"\n\n":    api.ErrText,
		"Content-Type: a/b" + strings.Repeat(";c=d", 20) + "\n\n": api.OK,
		"Content-Type: a/b" + strings.Repeat(";c=d", 21) + "\n\n": api.ErrMany,

		"Content-ID: <\n\n":                                 api.ErrText,
		"Content-ID: >\n\n":                                 api.ErrText,
		"Content-ID: <x\n\n":                                api.ErrText,
		"Content-ID: x>\n\n":                                api.ErrText,
		"Content-ID: <<x>>\n\n":                             api.ErrText,
		"Content-ID: < x>\n\n":                              api.ErrText,
		"Content-ID: <x> y\n\n":                             api.ErrText,
		"Content-ID: ><\n\n":                                api.ErrText,
		"Content-ID: <" + long[:120] + ">\n\n":              api.OK,
		"Content-ID: <" + long + ">\n\n":                    api.ErrText,
		"Content-Location: <x>\n\n":                         api.ErrText,
		"Content-Location: a b\n\n":                         api.ErrText,
		"Content-Location: a\n b\n\n":                       api.ErrText,
		"Content-Location: " + long[:120] + "\n\n":          api.OK,
		"Content-Location: " + long + "\n\n":                api.ErrText,
		"Content-Transfer-Encoding: z\n\n":                  api.ErrForm,
		"Content-Transfer-Encoding: base64;\n\n":            api.ErrForm,
		"Content-Transfer-Encoding: 8 bit\n\n":              api.ErrForm,
		"Content-Transfer-Encoding: base_64\n\n":            api.ErrForm,
		"Content-Transfer-Encoding: quoted\n\n":             api.ErrForm,
		"Content-Transfer-Encoding: base64\n\n=":            api.ErrText,
		"Content-Transfer-Encoding: base64\n\nAAA":          api.ErrText,
		"Content-Transfer-Encoding: base64\n\nAB==":         api.ErrText,
		"Content-Transfer-Encoding: quoted-printable\n\n=4": api.ErrText,
		"Content-Transfer-Encoding: quoted-printable\n\n=":  api.OK,

		"Content-Type: multipart/x\n\n":                                   api.ErrRange,
		"Content-Type: multipart/x; boundary=\"\"\n\n----\n":              api.ErrRange,
		"Content-Type: multipart/x; boundary=\"" + long[:60] + "\"\n\n":   api.ErrText,
		"Content-Type: multipart/x; boundary=\"" + long[:61] + "\"\n\n":   api.ErrRange,
		"Content-Type: multipart/x; boundary=b\n\n":                       api.ErrText,
		"Content-Type: multipart/x; boundary=b\n\n--b\n\n":                api.ErrText,
		"Content-Type: multipart/x; boundary=b\n\n--b--\n":                api.ErrForm,
		"Content-Type: multipart/x; boundary=b\n\n--b\n--b--\n":           api.ErrText,
		"Content-Type: multipart/x; boundary=b\n\n--b\n\n--b--\n":         api.ErrText,
		"Content-Type: multipart/x; boundary=b\n\n--b\n\n\n--b--\n":       api.OK,
		"Content-Type: multipart/; boundary=b\n\n--b\n\n\n--b--\n":        api.ErrText,
		"Content-Type: multipart/x y; boundary=b\n\n--b\n\n\n--b--\n":     api.ErrText,
		"Content-Type: multipart/x; boundary=b\n\n--b\nA: b\n\n--b--\n":   api.ErrText,
		"Content-Type: multipart/x; boundary=b\n\n--b\nA: b\n\n\n--b--\n": api.OK,
		// The inner part has the border of the one around: that is over where the inner one is.
		manyText("b", manyText("b", "\n")): api.ErrText,
	} {
		wantReadError(t, s, want)
		wantRead(t, manyText("z", s))
		wantRead(t, manyText("z", "\n", s, "\n"))
	}
}

func TestReadLimits(t *testing.T) {
	x := func(n int) string { return strings.Repeat("x", n) }
	wantReadError(t, "\n"+x(4000), api.OK)
	wantReadError(t, "\n"+x(4001), api.ErrMany)
	wantReadError(t, "Content-Transfer-Encoding: binary\n\n"+x(4000), api.OK)
	wantReadError(t, "Content-Transfer-Encoding: binary\n\n"+x(4001), api.ErrMany)
	for how, write := range map[string]func(b []byte) (string, api.Errno){"base64": base.Write, "quoted-printable": quote.Write} {
		s, _ := write(make([]byte, 4000))
		wantReadError(t, "Content-Transfer-Encoding: "+how+"\n\n"+s, api.OK)
	}
	wantReadError(t, "Content-Transfer-Encoding: base64\n\n"+strings.Repeat("A", 5336), api.ErrMany)
	wantReadError(t, "Content-Transfer-Encoding: base64\n\n"+strings.Repeat(" ", 8001), api.ErrMany)
	wantReadError(t, "Content-Transfer-Encoding: base64\n\n"+strings.Repeat(" ", 8000), api.OK)
	wantReadError(t, "Content-Transfer-Encoding: quoted-printable\n\n"+x(4001), api.ErrMany)
	wantReadError(t, "Content-Transfer-Encoding: quoted-printable\n\n"+strings.Repeat(" ", 16001), api.ErrMany)
	wantReadError(t, "Content-Transfer-Encoding: quoted-printable\n\n"+strings.Repeat(" ", 16000), api.OK)
	for n := 39998; n <= 40002; n++ {
		want := api.OK
		if n > 40000 {
			want = api.ErrMany
		}
		s := manyText("b", "\nx")
		wantReadError(t, s+x(n-len(s)), want)
		wantReadError(t, x(n), max(want, api.ErrText))
	}
}

func TestReadCountsParts(t *testing.T) {
	texts := func(n int) []string { return slices.Repeat([]string{"\nx"}, n) }
	for n := range 30 {
		want := api.OK
		if n == 0 {
			want = api.ErrForm
		}
		if n > 11 {
			want = api.ErrMany
		}
		wantReadError(t, manyText("b", texts(n)...), want)
	}
	wantReadError(t, manyText("b", manyText("c", texts(10)...)), api.OK)
	wantReadError(t, manyText("b", manyText("c", texts(11)...)), api.ErrMany)
	wantReadError(t, manyText("b", manyText("c", texts(4)...), manyText("c", texts(5)...)), api.OK)
	wantReadError(t, manyText("b", manyText("c", texts(5)...), manyText("c", texts(5)...)), api.ErrMany)
	wantReadError(t, manyText("b", "\n", manyText("c", texts(9)...)), api.OK)
	wantReadError(t, manyText("b", "\n", manyText("c", texts(10)...)), api.ErrMany)
}

func TestReadCountsLevels(t *testing.T) {
	wantReadError(t, manyText("b", manyText("c", "\n")), api.OK)
	wantReadError(t, manyText("b", manyText("c", manyText("d", "\n"))), api.ErrMany)
	wantReadError(t, manyText("b", "\n", manyText("c", "\n", manyText("d", "\n"))), api.ErrMany)
	// Nothing is in the third level's part that may hold some: it isn't too deep, but in no form.
	wantReadError(t, manyText("b", manyText("c", manyText("d"))), api.ErrForm)
	// A part that is too deep isn't looked at, nor one that is too much.
	wantReadError(t, manyText("b", manyText("c", manyText("d", "wrong"))), api.ErrMany)
	wantReadError(t, manyText("b", append(slices.Repeat([]string{"\n"}, 11), "wrong")...), api.ErrMany)
	wantReadError(t, manyText("b", append(slices.Repeat([]string{"\n"}, 10), "wrong")...), api.ErrText)
}

func TestReadTellsTheFirstError(t *testing.T) {
	const how = "Content-Transfer-Encoding: z\n\n"
	x := strings.Repeat("x", 4001)
	for s, want := range map[string]api.Errno{
		// Within a part: its fields, its Content-Type, what it is in, and last what Check says.
		"Content-Type: a;\nx\n\n":                                        api.ErrText,
		strings.Repeat("A: b\n", 21) + "wrong":                           api.ErrMany,
		"Content-Type: a/b" + strings.Repeat(";c=d", 21) + "\n" + how:    api.ErrMany,
		"Content-Type: a/b" + strings.Repeat(";c=d", 21) + "\nx\n\n":     api.ErrText,
		"Content-Type: a\n" + how:                                        api.ErrForm,
		"Content-ID: <\n" + how:                                          api.ErrForm,
		"Content-Location: a b\n\n" + x:                                  api.ErrMany,
		"Content-Type: multipart/\n\n":                                   api.ErrRange,
		"Content-Type: multipart/x\nContent-ID: <\n\n":                   api.ErrRange,
		"Content-Type: multipart/;boundary=b\n\n--b\n" + how + "\n--b--": api.ErrForm,
		how + x: api.ErrForm,
		// Part by part.
		manyText("b", how, "wrong"):                                                   api.ErrForm,
		manyText("b", "wrong", how):                                                   api.ErrText,
		manyText("b", "\n"+x, how):                                                    api.ErrMany,
		manyText("b", how, "\n"+x):                                                    api.ErrForm,
		manyText("b", manyText("c", "\n", how), "wrong"):                              api.ErrForm,
		manyText("b", manyText("c", "\n", "\n"+x), how):                               api.ErrMany,
		manyText("b", "\n"+x, manyText("c", manyText("d", "\n"))):                     api.ErrMany,
		manyText("b", how, manyText("c", manyText("d", "\n"))):                        api.ErrForm,
		manyText("b", append([]string{how}, slices.Repeat([]string{"\n"}, 20)...)...): api.ErrForm,
		// What Check says of one is told behind what is told of any as it is read.
		manyText("b", "Content-ID: <\n\n", how):                       api.ErrForm,
		manyText("b", "Content-Type: a\n\n", "\n"+x):                  api.ErrMany,
		manyText("b", manyText("c"), "wrong"):                         api.ErrText,
		manyText("b", manyText("c"), "Content-ID: <\n\n"):             api.ErrForm,
		manyText("b", "Content-ID: <\n\n", manyText("c")):             api.ErrText,
		manyText("b", manyText("c"), "Content-Type: multipart/x\n\n"): api.ErrRange,
	} {
		wantReadError(t, s, want)
	}
}

func TestReadOfAllFields(t *testing.T) {
	var l []string
	for _, kind := range []string{"", "Content-Type: a/B; charset=\"c\"\n", "content-type: a; x\n", "Content-Type: a\n", "Content-Type: multipart/x; boundary=b\n", "Content-Type: multipart/x; boundary=\n", "Content-Type: multipart/X\n"} {
		for _, id := range []string{"", "Content-ID: <i>\n", "content-id:i\r\n", "Content-Id: <\n", "Content-ID: <>\n"} {
			for _, location := range []string{"", "Content-Location: l \n", "Content-Location:\n l\n", "Content-Location: <\n"} {
				for _, how := range []string{"", "Content-Transfer-Encoding: 7Bit\n", "Content-transfer-encoding: bASE64\n", "Content-Transfer-Encoding: quoted-printable\n", "Content-Transfer-Encoding: x\n"} {
					for _, body := range []string{"", "\n", "\nTWE=", "\r\n=\n=3d", "\n--b\n\n--b--", "\n--b\n\nx\n--b--", "\n--b--", "\n--b\nwrong\n\n--b--"} {
						l = append(l, kind+id+location+how+body)
					}
				}
			}
		}
	}
	for i, s := range l {
		wantRead(t, s)
		wantRead(t, manyText("z", s, l[(7*i+3)%len(l)]))
		wantRead(t, manyText("z", "\n", manyText("y", s)))
	}
}

func TestReadOfAllTexts(t *testing.T) {
	head := "Content-Type: multipart/x; boundary=b\n\n"
	allTexts([]string{"\n", "\n--b\n", "\n--b--", head, "Content-Transfer-Encoding: base64\n", "AA==", "x: y", "\r"}, 5, func(s string) {
		wantRead(t, s)
		wantRead(t, head+s)
		wantRead(t, head+"--b\n"+s+"\n--b--")
	})
}

// Read ends soon, though all its lines are borders, or one border stands in another.
func TestReadOfManyBorders(t *testing.T) {
	s := manyText("b", strings.Repeat("--b\n", 9000))
	wantReadError(t, s, api.ErrText)
	s = "Content-Type: multipart/x; boundary=b\n\n" + strings.Repeat("--b\n\n\n", 6000) + "--b--"
	wantReadError(t, s, api.ErrMany)
	wantReadError(t, "\n"+strings.Repeat("\n", 3999), api.OK)
	wantReadError(t, strings.Repeat("A: b\n c\n", 5000), api.ErrMany)
	wantReadError(t, "A: b\n"+strings.Repeat(" c\n", 5000)+"\n", api.ErrText)
}

func TestWhatIsReadMayBeTooMuchToWrite(t *testing.T) {
	s := "Content-Type: multipart/x; boundary=b\n\n" + strings.Repeat("--b\n\n"+strings.Repeat("x", 3600)+"\n", 11) + "--b--"
	p, e := wantRead(t, s)
	if e != api.OK || len(s) > 40000 {
		t.Fatalf("Read of %d bytes: %d", len(s), e)
	}
	if b, e := Write(p); b != nil || e != api.ErrMany {
		t.Errorf("Write: %d bytes, %d", len(b), e)
	}
}

func clonePart(p api.Part) api.Part {
	p.Body = slices.Clone(p.Body)
	p.Parts = slices.Clone(p.Parts)
	for i := range p.Parts {
		p.Parts[i] = clonePart(p.Parts[i])
	}
	return p
}

func TestOnlyReadsWhatIsHandedIn(t *testing.T) {
	room := []byte("body--=_1 and room behind")
	partRoom := []api.Part{tree(), plain("x"), plain("y"), plain("z")}
	partRoom[1].Body = room[:4]
	p := api.Part{Type: "multipart/x", Parts: partRoom[1:3]}
	before, beforeRoom := clonePart(many(partRoom...)), string(room)
	b, e := Write(p)
	if e != api.OK {
		t.Fatalf("Write: %d", e)
	}
	if !reflect.DeepEqual(before, clonePart(many(partRoom...))) || string(room) != beforeRoom {
		t.Error("Write changed the part, or the room behind its lists")
	}
	text := string(b)
	for i := range partRoom {
		clear(partRoom[i].Body)
	}
	if string(b) != text {
		t.Error("Write's answer shares memory with what was handed in")
	}
	whole := []byte(treeText + "and room behind")
	handed := whole[:len(treeText)]
	Read(handed)
	Split(handed, "=_2")
	if string(whole) != treeText+"and room behind" {
		t.Error("Read or Split changed what was handed in, or the room behind it")
	}
}

func TestSplitAnswersNewMemory(t *testing.T) {
	b := []byte("--b\none\n--b\ntwo\n--b\n\n--b\nfour\n--b--")
	before := string(b)
	l, e := Split(b, "b")
	if e != api.OK || len(l) != 4 {
		t.Fatalf("Split: %d parts, %d", len(l), e)
	}
	clear(b)
	for i, want := range []string{"one", "two", "", "four"} {
		if string(l[i]) != want {
			t.Errorf("part %d: %q; want %q", i, l[i], want)
		}
	}
	copy(b, before)
	checkApart(t, l)
	if string(b) != before {
		t.Error("the answer shares memory with what was handed in")
	}
}

func TestReadAnswersNewMemory(t *testing.T) {
	s := manyText("b", "\none", "\n", manyText("c", "\nthree", "Content-Transfer-Encoding: quoted-printable\n\nfour"), "Content-Transfer-Encoding: base64\n\nTWE=")
	b := []byte(s)
	p, e := Read(b)
	if e != api.OK {
		t.Fatalf("Read: %d", e)
	}
	clear(b)
	if want, _ := expectedRead([]byte(s)); !part.Same(p, want) {
		t.Errorf("the part keeps what was handed in: %s", told(p))
	}
	copy(b, s)
	var l [][]byte
	var gather func(p api.Part)
	gather = func(p api.Part) {
		l = append(l, p.Body)
		for _, q := range p.Parts {
			gather(q)
		}
	}
	gather(p)
	checkApart(t, l)
	if string(b) != s {
		t.Error("the part shares memory with what was handed in")
	}
	alone := []byte("\nbody")
	p, _ = Read(alone)
	clear(alone)
	if string(p.Body) != "body" {
		t.Errorf("Body: %q", p.Body)
	}
}

// checkApart fills each list, with its spare room, to see that none shares memory with another one.
func checkApart(t *testing.T, l [][]byte) {
	t.Helper()
	for i := range l {
		whole := l[i][:cap(l[i])]
		for k := range whole {
			whole[k] = byte(i + 1)
		}
	}
	for i := range l {
		if whole := l[i][:cap(l[i])]; !bytes.Equal(whole, bytes.Repeat([]byte{byte(i + 1)}, len(whole))) {
			t.Errorf("list %d shares memory with another one", i)
		}
	}
}

// grown: a tree told by bytes; few of its fields are wrong.
func grown(b []byte) api.Part {
	next := func() int {
		if len(b) == 0 {
			return 0
		}
		c := b[0]
		b = b[1:]
		return int(c)
	}
	texts := []string{"", "i", "--=_1", "--=_2--=_12", "a;b=c", "x y"}
	var grow func(deep int) api.Part
	grow = func(deep int) api.Part {
		count := next() % 4
		if deep > 3 || count == 0 {
			n := next() % 40
			body := b[:min(len(b), n)]
			b = b[len(body):]
			return api.Part{Type: "a/b", Charset: []string{"", "c"}[next()%2], ID: texts[next()%len(texts)], Location: texts[next()%len(texts)], How: next() % 4 % 3, Body: bytes.Repeat(body, 1+next()%3)}
		}
		p := api.Part{Type: "multipart/x", ID: texts[next()%len(texts)]}
		for range count {
			p.Parts = append(p.Parts, grow(deep+1))
		}
		return p
	}
	return grow(1)
}

func FuzzWrite(f *testing.F) {
	for _, s := range []string{"", "\x02\x01\x00\x05--=_1\x01\x02\x03\x00", "\x01\x02\x01\x00\x00\x09--=_2\r\n--=_1\x00\x03\x02\x02", "\x03\x00\x00\x08\r\n\r\n\r\n\r\r\x00\x00\x01\x01\x00\x04abcd"} {
		f.Add([]byte(s))
	}
	f.Fuzz(func(t *testing.T, b []byte) { wantWrite(t, grown(b)) })
}

func FuzzSplit(f *testing.F) {
	for _, s := range []string{"", "--b--", "--b\nx\r\n--b \n--b--\nz", "x\n--b\r\n\r\n--b--", "--b\n--b\t\n--b-- \r\n"} {
		f.Add(s, "b")
	}
	f.Fuzz(func(t *testing.T, s, border string) { wantSplit(t, s, border) })
}

func FuzzRead(f *testing.F) {
	for _, s := range []string{"", "\n", treeText, manyText("b", manyText("c", "\nx"), "Content-Transfer-Encoding: base64\n\nTWE="), "Content-Type: a/b; charset=\"c\"\r\nContent-ID: <x>\r\n\r\n", "Content-Type: multipart/x; boundary=\"a b\"\n\n--a b\n\n\n--a b--"} {
		f.Add(s)
	}
	f.Fuzz(func(t *testing.T, s string) { wantRead(t, s) })
}
