package link

import (
	"fmt"
	"regexp"
	"slices"
	"strings"
	"testing"
	"unicode"

	"scrapbook/api"
)

// A second reading of the chapter, by patterns: what the package answers is held against it.

var (
	leftOut     = regexp.MustCompile(`(?s)\A(?:<!--.*?(?:-->|\z)|<[!?][^>]*|<)`)
	tagBegin    = regexp.MustCompile(`\A<(/?)[A-Za-z][^ \t\r\n\f/>]*`)
	between     = regexp.MustCompile(`\A[ \t\r\n\f/]*`)
	attribute   = regexp.MustCompile(`(?s)\A(.[^ \t\r\n\f/>=]*)(?:[ \t\r\n\f]*=[ \t\r\n\f]*(?:"([^"]*)"?|'([^']*)'?|([^ \t\r\n\f>]*)))?`)
	smallLetter = regexp.MustCompile(`[a-z]`)
	plainForm   = regexp.MustCompile(`\A[!#$%(-;?-~]*\z`)
)

// expectedTag tells where the tag of s at this place is over, and its links; -1: s is over ahead of that.
func expectedTag(s string, at int) (end int, l []api.Link) {
	begin := tagBegin.FindStringSubmatch(s[at:])
	at += len(begin[0])
	names := []string{}
	for {
		at += len(between.FindString(s[at:]))
		if at == len(s) {
			return -1, nil
		}
		if s[at] == '>' {
			return at + 1, l
		}
		m := attribute.FindStringSubmatchIndex(s[at:])
		name := upper(s[at : at+m[3]])
		first := !slices.Contains(names, name)
		names = append(names, name)
		for i := 4; i < len(m); i += 2 {
			if m[i] >= 0 && first && begin[1] == "" && slices.Contains([]string{"HREF", "SRC"}, name) {
				value := s[at+m[i] : at+m[i+1]]
				l = append(l, api.Link{From: at + m[i], To: at + m[i+1], Text: strings.Join(strings.Split(value, "&amp;"), "&")})
			}
		}
		at += m[1]
	}
}

// upper makes the letters a to z large, and no others.
func upper(s string) string { return smallLetter.ReplaceAllStringFunc(s, strings.ToUpper) }

func expectedFind(s string) (l []api.Link, e api.Errno) {
	if len(s) > 4000 {
		return nil, api.ErrMany
	}
	for at := strings.IndexByte(s, '<'); at >= 0; {
		if tagBegin.MatchString(s[at:]) {
			end, more := expectedTag(s, at)
			if end < 0 {
				break
			}
			at, l = end, append(l, more...)
		} else {
			at += len(leftOut.FindString(s[at:]))
		}
		next := strings.IndexByte(s[at:], '<')
		if next < 0 {
			break
		}
		at += next
	}
	if len(l) > 60 {
		return nil, api.ErrMany
	}
	return l, api.OK
}

func expectedPut(s string, texts []string) (string, api.Errno) {
	l, e := expectedFind(s)
	if e != api.OK {
		return "", e
	}
	if len(l) != len(texts) {
		return "", api.ErrForm
	}
	if slices.ContainsFunc(texts, func(s string) bool { return !plainForm.MatchString(s) }) {
		return "", api.ErrText
	}
	// From the last one on, so that the places of those ahead stay.
	for i := len(l) - 1; i >= 0; i-- {
		if texts[i] != "" {
			s = s[:l[i].From] + texts[i] + s[l[i].To:]
		}
	}
	if len(s) > 4000 {
		return "", api.ErrMany
	}
	return s, api.OK
}

// wantFind holds Find of s against the second reading.
func wantFind(t *testing.T, s string) ([]api.Link, api.Errno) {
	t.Helper()
	l, e := Find([]byte(s))
	want, wantErr := expectedFind(s)
	if !slices.Equal(l, want) || e != wantErr {
		t.Fatalf("Find(%.300q): %.300q, %d; want %.300q, %d", s, fmt.Sprint(l), e, fmt.Sprint(want), wantErr)
	}
	return l, e
}

// wantPut holds Put against the second reading, and what is found behind it against what the chapter says of that.
func wantPut(t *testing.T, s string, texts []string) (string, api.Errno) {
	t.Helper()
	b, e := Put([]byte(s), texts)
	want, wantErr := expectedPut(s, texts)
	if string(b) != want || e != wantErr {
		t.Fatalf("Put(%.300q, %.300q): %.300q, %d; want %.300q, %d", s, texts, b, e, want, wantErr)
	}
	if e != api.OK {
		if b != nil {
			t.Fatalf("Put(%.300q, %.300q): a list with an error", s, texts)
		}
		return "", e
	}
	before, _ := Find([]byte(s))
	behind, e := Find(b)
	if len(behind) != len(texts) || e != api.OK {
		t.Fatalf("behind Put(%.300q, %.300q): %d links, %d", s, texts, len(behind), e)
	}
	for i, text := range texts {
		if text == "" {
			text = before[i].Text
		}
		if behind[i].Text != text {
			t.Fatalf("behind Put(%.300q, %.300q): %+v", s, texts, behind)
		}
	}
	return string(b), api.OK
}

// wantTexts: are these the texts of the links of s?
func wantTexts(t *testing.T, s string, want ...string) {
	t.Helper()
	l, e := wantFind(t, s)
	got := []string{}
	for _, x := range l {
		got = append(got, x.Text)
	}
	if !slices.Equal(got, want) || e != api.OK {
		t.Errorf("Find(%.300q): %.300q, %d; want %.300q", s, got, e, want)
	}
}

// allTexts hands use each text of up to most of the pieces.
func allTexts(pieces []string, most int, use func(s string)) {
	use("")
	var more func(s string, left int)
	more = func(s string, left int) {
		if left == 0 {
			return
		}
		for _, x := range pieces {
			use(s + x)
			more(s+x, left-1)
		}
	}
	more("", most)
}

func times(s string, n int) string { return strings.Repeat(s, n) }

func TestSecondReading(t *testing.T) {
	for c := range 256 {
		s := string([]byte{byte(c)})
		want := c >= 33 && c <= 126 && !strings.Contains(`"'<>&=`, s)
		if plainForm.MatchString(s) != want {
			t.Errorf("%s takes %q, or doesn't, though it should", plainForm, s)
		}
	}
}

func TestFindTellsWhereValuesStand(t *testing.T) {
	for s, want := range map[string][]api.Link{
		"<a href=b>":                         {{From: 8, To: 9, Text: "b"}},
		"<a href='b'>":                       {{From: 9, To: 10, Text: "b"}},
		"<a href=\"b c\" src=d>":             {{From: 9, To: 12, Text: "b c"}, {From: 18, To: 19, Text: "d"}},
		"<a href= \n b>":                     {{From: 11, To: 12, Text: "b"}},
		"<a href=>":                          {{From: 8, To: 8}},
		"<a href=  >":                        {{From: 10, To: 10}},
		"<a href=''>":                        {{From: 9, To: 9}},
		"<a href=\"\"src=\"\">":              {{From: 9, To: 9}, {From: 15, To: 15}},
		"<img src=q><a href='&amp;&amp;'>":   {{From: 9, To: 10, Text: "q"}, {From: 20, To: 30, Text: "&&"}},
		"é<a x=1 HREF=é>":                    {{From: 14, To: 16, Text: "é"}},
		"<a src=1 href=2><a href=3\tsrc=4>":  {{From: 7, To: 8, Text: "1"}, {From: 14, To: 15, Text: "2"}, {From: 24, To: 25, Text: "3"}, {From: 30, To: 31, Text: "4"}},
		"a < b <3 <a\nhref\n=\n'x>y'\n> > b": {{From: 20, To: 23, Text: "x>y"}},
	} {
		if l, e := wantFind(t, s); !slices.Equal(l, want) || e != api.OK {
			t.Errorf("Find(%q): %v, %d; want %v", s, l, e, want)
		}
	}
}

func TestFindOfPages(t *testing.T) {
	wantTexts(t, "")
	wantTexts(t, "no tag, href=a")
	wantTexts(t, "<!DOCTYPE html><html><head><LINK rel='x' Href='style.css'/></head>\r\n<body><p>a &lt; <a id=x href=\"http://h/?a=b&amp;c=d#e\">f</a href=no></p><img alt='<a href=no>' src=pic.png /></body></html>", "style.css", "http://h/?a=b&c=d#e", "pic.png")
	wantTexts(t, "<a href=b><c src=d></c><e href=f src=g>", "b", "d", "f", "g")
}

func TestFindLeavesOut(t *testing.T) {
	const after = "<b src=c>"
	for s, want := range map[string][]string{
		"<!--<a href=x>-->" + after:          {"c"},
		"<!--<a href=x>--" + after:           {},
		"<!--<a href=x>-- >" + after:         {},
		"<!--" + after:                       {},
		"<!-->" + after:                      {},
		"<!-->" + after + "-->" + after:      {"c"},
		"<!--->" + after:                     {},
		"<!--->" + after + "-->" + after:     {"c"},
		"<!---->" + after:                    {"c"},
		"<!----->" + after:                   {"c"},
		"<!--<!---->" + after:                {"c"},
		"<!----><!-- -->" + after + "-->":    {"c"},
		"<!-" + after:                        {},
		"<!- >" + after:                      {"c"},
		"<! --" + after + after:              {"c"},
		"<!>" + after:                        {"c"},
		"<!a href='>'" + after:               {"c"},
		"<!" + after + after:                 {"c"},
		"<!":                                 {},
		"<?>" + after:                        {"c"},
		"<?--" + after + "-->" + after:       {"c"},
		"<?php \"?>\" ?>" + after:            {"c"},
		"<?" + after:                         {},
		"<?":                                 {},
		"<" + after:                          {"c"},
		"</" + after:                         {"c"},
		"<>" + after:                         {"c"},
		"< a href=x>" + after:                {"c"},
		"</ a href=x>" + after:               {"c"},
		"<//a href=x>" + after:               {"c"},
		"<1 href=x>" + after:                 {"c"},
		"</1 href=" + after:                  {"c"},
		"<é href=x>" + after:                 {"c"},
		"\x00<\x00a href=x>\xff" + after:     {"c"},
		"<a <!-- >" + after + "-->":          {"c"},
		"<a x='<!--'>" + after:               {"c"},
		"<script>'" + after + "'</script>":   {"c"},
		"<!--a--><!b><?c><<//d>" + after:     {"c"},
		"-->" + after + "<!--" + after + "<": {"c"},
	} {
		wantTexts(t, s, want...)
	}
}

func TestTagsThatShutOrDoNotEnd(t *testing.T) {
	wantTexts(t, "</a href=b>")
	wantTexts(t, "</a href=b><a href=c>", "c")
	wantTexts(t, "</a href='>'><a href=c>", "c")
	wantTexts(t, "</a x='><b href=c>'><d href=e>", "e")
	wantTexts(t, "</a <b href=c>")
	for _, s := range []string{"<", "<a", "<a ", "<a /", "<a x", "<a href", "<a href=", "<a href= ", "<a href=b", "<a href=b ", "<a href=b /", "<a href='b", "<a href='b>", "<a href='b\"> <c src=d>", "<a href='b'", "<a href='b' ", "<a href=b src", "<a href=b src='"} {
		wantTexts(t, s)
		wantTexts(t, "<c src=d>"+s, "d")
		wantTexts(t, "</"+s[1:])
	}
	// What stands in a tag is the tag's, be it like another one.
	wantTexts(t, "<a <b href=c>", "c")
	wantTexts(t, "<a href=<b src=c>", "<b", "c")
	wantTexts(t, "<a x='<b href=c>")
	wantTexts(t, "<a x='<b href=c>'>")
	wantTexts(t, "<a x='<b href=c>' href=d>", "d")
}

func TestTagNames(t *testing.T) {
	for c := range 256 {
		one := string([]byte{byte(c)})
		letter := c >= 'a' && c <= 'z' || c >= 'A' && c <= 'Z'
		for s, want := range map[string]bool{
			"<" + one + " href=b>":     letter,
			"<" + one + "/href=b>":     letter,
			"<a" + one + " href=b>":    one != ">",
			"<a" + one + "href=b>":     strings.Contains(" \t\r\n\f/", one),
			"<a x" + one + "href=b>":   strings.Contains(" \t\r\n\f/", one),
			"</" + one + " <a href=b>": !letter,
		} {
			l, e := wantFind(t, s)
			if e != api.OK || (len(l) == 1) != want {
				t.Errorf("Find(%q): %v, %d", s, l, e)
			}
		}
	}
	wantTexts(t, "<a=href=b>")
	wantTexts(t, "<a== href=b>", "b")
	wantTexts(t, "<a=='><b href=c>", "c")
	wantTexts(t, "<a\"href=b>")
	wantTexts(t, "<a/href=b>", "b")
	wantTexts(t, "<href=b>")
	wantTexts(t, "<src src=b>", "b")
	wantTexts(t, "<a:b-c.d href=b>", "b")
}

func TestAttributeNames(t *testing.T) {
	for _, name := range []string{"href", "HREF", "hReF", "src", "SRC", "Src"} {
		wantTexts(t, "<a "+name+"=b>", "b")
		wantTexts(t, "<a//"+name+"=b>", "b")
		for c := range 256 {
			one := string([]byte{byte(c)})
			apart := strings.Contains(" \t\r\n\f/", one)
			if l, _ := wantFind(t, "<a "+one+name+"=b>"); (len(l) == 1) != apart {
				t.Errorf("%q ahead of %s: %v", one, name, l)
			}
			if l, _ := wantFind(t, "<a "+name+one+"=b>"); (len(l) == 1) != (one == "=" || apart && one != "/") {
				t.Errorf("%q behind %s: %v", one, name, l)
			}
		}
	}
	wantTexts(t, "<a =href=b>")
	wantTexts(t, "<a = href=b>", "b")
	wantTexts(t, "<a == href=b>")
	wantTexts(t, "<a =x href=b>", "b")
	wantTexts(t, "<a ==x href=b>", "b")
	wantTexts(t, "<a \"href=b>")
	wantTexts(t, "<a \" href=b>", "b")
	wantTexts(t, "<a 'x>' href=b>")
	wantTexts(t, "<a href/=b>")
	wantTexts(t, "<a data-src=b xhref=c hrefs=d srcset=e>")
}

// No letter that folds to one of the names' letters, or is made of it, is one.
func TestNoOtherLettersAreNames(t *testing.T) {
	for r := rune(128); r <= unicode.MaxRune; r++ {
		for _, name := range []string{"href", "src"} {
			if unicode.SimpleFold(r) >= 128 && unicode.ToLower(r) >= 128 && unicode.ToUpper(r) >= 128 {
				continue
			}
			for i := range name {
				s := "<a " + name[:i] + string(r) + name[i+1:] + "=b>"
				if l, e := Find([]byte(s)); len(l) != 0 || e != api.OK {
					t.Errorf("Find(%q): %v, %d", s, l, e)
				}
			}
		}
	}
}

func TestValues(t *testing.T) {
	for s, want := range map[string]string{
		"b": "b", "b/": "b/", "/": "/", "/b//": "/b//", "b=c": "b=c", "=": "=", "==b": "==b", "b'c": "b'c", "b\"": "b\"", "b''": "b''", "<b": "<b", "b c": "b", "b\tc": "b", "b\rc": "b", "b\nc": "b", "b\fc": "b", "b\vc": "b\vc", "b\x00c": "b\x00c", "\xff": "\xff", "é": "é",
		"''": "", "\"\"": "", "'b'": "b", "\"b\"": "b", "'b\"c'": "b\"c", "\"b'c\"": "b'c", "'>'": ">", "' b '": " b ", "'\r\n'": "\r\n", "'b'c": "b", "'b'/": "b", "'b'src": "b", "''''": "", "'<!--'": "<!--", "'='": "=",
		" b": "b", "\t\r\n\f b": "b", " 'b'": "b", "\n\"b\"": "b", "\vb": "\vb", " =b": "=b", "": "", " ": "",
	} {
		wantTexts(t, "<a href="+s+">", want)
		wantTexts(t, "<a href \t\r\n\f="+s+" >", want)
		wantTexts(t, "<a SRC="+s+"\n/>", want+map[bool]string{true: "/"}[strings.Trim(s, " ") == ""])
		wantTexts(t, "<a x="+s+">")
	}
	for c := range 256 {
		one := string([]byte{byte(c)})
		for s, ends := range map[string]bool{"<a href=b" + one + "c>": strings.Contains(" \t\r\n\f>", one), "<a href='b" + one + "c'>": one == "'", "<a href=\"b" + one + "c\">": one == "\""} {
			want := map[bool]string{true: "b", false: "b" + one + "c"}[ends]
			wantTexts(t, s, want)
		}
	}
}

func TestAmpersands(t *testing.T) {
	for s, want := range map[string]string{
		"&amp;": "&", "b&amp;c&amp;d": "b&c&d", "&amp;&amp;": "&&", "&amp;amp;": "&amp;", "&amp;amp;amp;": "&amp;amp;", "&&amp;amp;": "&&amp;", "&amp": "&amp", "&amp;lt;": "&lt;",
		"&AMP;": "&AMP;", "&Amp;": "&Amp;", "&lt;": "&lt;", "&#38;": "&#38;", "&": "&", "&am&amp;p;": "&am&p;", "amp;": "amp;",
	} {
		wantTexts(t, "<a href="+s+">", want)
		wantTexts(t, "<a src='"+s+"'>", want)
	}
	// Names are as they are written.
	wantTexts(t, "<a &amp;href=b>")
	wantTexts(t, "<a &amp; href=b>", "b")
}

func TestFirstOfEachName(t *testing.T) {
	for s, want := range map[string][]string{
		"href=b href=c":               {"b"},
		"href=b HREF=c src=d Src=e":   {"b", "d"},
		"src=b href=c src=d href=e":   {"b", "c"},
		"href href=c":                 {},
		"HREF href=c src=d":           {"d"},
		"href src href=c src=d":       {},
		"href = '' href=c":            {""},
		"href=b href":                 {"b"},
		"href/=b href=c":              {},
		"x href=b x x=1 x=2 href=c":   {"b"},
		"src=b src=c src=d href=e":    {"b", "e"},
		"xhref=b href=c hrefx href=d": {"c"},
	} {
		wantTexts(t, "<a "+s+">", want...)
		// Each tag has firsts of its own, whatever stood in a tag that shuts.
		wantTexts(t, "<a "+s+"></a "+s+"><b "+s+">", append(slices.Clone(want), want...)...)
	}
}

func TestFindLimits(t *testing.T) {
	page := "<a href=b>" + times(" ", 3990)
	wantTexts(t, page, "b")
	for _, s := range []string{page + " ", times("x", 4001), times("<", 4001), times("<!--", 2000)} {
		if l, e := wantFind(t, s); l != nil || e != api.ErrMany {
			t.Errorf("Find of %d bytes: %d links, %d", len(s), len(l), e)
		}
	}
	wantTexts(t, "<a href="+times("b", 3991)+">", times("b", 3991))
	for _, c := range []string{"<", "</", "<a", "<a ", "<a x=", "<!", "<!--", "<?", "'", "/", "=", "<a href='", "\x00"} {
		wantFind(t, times(c, 4000/len(c)))
		wantFind(t, "<a "+times(c, 3990/len(c))+">")
	}
}

func TestFindCountsLinks(t *testing.T) {
	one, two := "<a href=b>", "<a href=b src=c>"
	for s, want := range map[string]int{
		times(one, 59):                                      59,
		times(one, 60):                                      60,
		times(one, 61):                                      -1,
		times(one, 400):                                     -1,
		times(two, 30):                                      60,
		times(two, 30) + "<a href=>":                        -1,
		times(two, 31):                                      -1,
		times(one, 59) + two:                                -1,
		times(one, 60) + "</a href=b>":                      60,
		times(one, 60) + "<a href=b":                        60,
		times(one, 60) + "<a href=b src='c>":                60,
		times(one, 60) + "<a href><b x=y><!-- " + one:       60,
		times(one, 60) + "<!-- " + one + "-->" + one:        -1,
		times(one, 61) + "<a href=b":                        -1,
		"<a " + times("href=b src=c ", 300) + ">":           2,
		"<a href=b" + times("<a href=b ", 300) + ">":        1,
		times("<a href>", 400):                              0,
		times("</a href=b>", 300):                           0,
		times(one, 30) + times("<b>", 200) + times(one, 30): 60,
	} {
		l, e := wantFind(t, s)
		wantErr := api.OK
		if want < 0 {
			want, wantErr = 0, api.ErrMany
		}
		if len(l) != want || e != wantErr || e != api.OK && l != nil {
			t.Errorf("Find(%.80q of %d): %d links, %d; want %d, %d", s, len(s), len(l), e, want, wantErr)
		}
	}
}

func TestFindOfAllTexts(t *testing.T) {
	find := func(ahead, behind string) func(s string) {
		return func(s string) { wantFind(t, ahead+s+behind) }
	}
	allTexts([]string{"<", "a", "/", ">", "!", "-", "--", "?", " href=b"}, 6, find("", ""))
	allTexts([]string{"<a ", "</a ", ">", "href", "=", "'", "\"", " ", "/", "b"}, 5, find("", ""))
	allTexts([]string{"href", "src", "=", "'", "\"", " ", "/", ">", "b"}, 6, find("<a ", ">"))
	allTexts([]string{"=", "'", "\"", "\n", "/", ">", "<"}, 6, find("<a href", " src=c>"))
	allTexts([]string{"=", "'", "/", " ", ">", "href=b"}, 5, find("<a", ">"))
	allTexts([]string{"&", "amp", ";", "&amp;", "'", ">"}, 5, find("<a href=", "'>"))
	allTexts([]string{"<!--", "-", "->", "-->", ">", "<a href=b>"}, 6, find("", ""))
}

func TestPutOrdinary(t *testing.T) {
	for _, c := range []struct {
		page  string
		texts []string
		want  string
	}{
		{"", nil, ""},
		{"", []string{}, ""},
		{"no links <b>", nil, "no links <b>"},
		{"<a href=b>", []string{"q"}, "<a href=q>"},
		{"<a href=b>", []string{""}, "<a href=b>"},
		{"<a href=b/>", []string{"q"}, "<a href=q>"},
		{"<a href=b />", []string{"q/"}, "<a href=q/ />"},
		{"<a href=>", []string{"q"}, "<a href=q>"},
		{"<a href= >", []string{"q"}, "<a href= q>"},
		{"<a href= \n>", []string{""}, "<a href= \n>"},
		{"<a href=''>", []string{"q"}, "<a href='q'>"},
		{"<a href='b c'src=\"d>e\">", []string{"q", "r"}, "<a href='q'src=\"r\">"},
		{"<a href='b c'src=\"d>e\">", []string{"", "r"}, "<a href='b c'src=\"r\">"},
		{"<a href='b&amp;c'src=\"d\">", []string{"", "r"}, "<a href='b&amp;c'src=\"r\">"},
		{"<a href='b&amp;c'src=\"d\">", []string{"q", ""}, "<a href='q'src=\"d\">"},
		{"1<a href=b>2<c src=d>3</c>", []string{"long.text", "x"}, "1<a href=long.text>2<c src=x>3</c>"},
		{"<a href=b href=c><!-- <a href=d> --></a href=e><f href=g", []string{"q"}, "<a href=q href=c><!-- <a href=d> --></a href=e><f href=g"},
		{"\xff<a href=\xff>\x00", []string{"!#$%()*+,-./09:;?@AZ[\\]^_`az{|}~"}, "\xff<a href=!#$%()*+,-./09:;?@AZ[\\]^_`az{|}~>\x00"},
		{"<a href=b>", []string{"b"}, "<a href=b>"},
		{"<a href=b>", []string{"//"}, "<a href=//>"},
	} {
		if s, e := wantPut(t, c.page, c.texts); s != c.want || e != api.OK {
			t.Errorf("Put(%q, %q): %q, %d; want %q", c.page, c.texts, s, e, c.want)
		}
	}
}

func TestPutOfEachByte(t *testing.T) {
	for c := range 256 {
		one := string([]byte{byte(c)})
		want := api.OK
		if c < 33 || c > 126 || strings.Contains(`"'<>&=`, one) {
			want = api.ErrText
		}
		for _, s := range []string{one, one + "q", "q" + one, "q" + one + "r"} {
			for _, page := range []string{"<a href=b>", "<a href='b'>", "<a href=\"b\">", "<a href=>", "<a href= />"} {
				if _, e := wantPut(t, page, []string{s}); e != want {
					t.Errorf("Put(%q, %q): %d; want %d", page, s, e, want)
				}
			}
			if _, e := wantPut(t, "<a href=b src=c><d src=e>", []string{"", "q", s}); e != want {
				t.Errorf("Put of %q as the last one: %d; want %d", s, e, want)
			}
		}
	}
	for _, s := range []string{"é", "a b", " ", "&amp;", "\u00a0", "q\n"} {
		if _, e := wantPut(t, "<a href=b>", []string{s}); e != api.ErrText {
			t.Errorf("Put of %q: %d", s, e)
		}
	}
}

func TestPutTellsTheFirstError(t *testing.T) {
	long, links := times("q", 4001), times("<a href=b>", 60)
	for _, c := range []struct {
		page  string
		texts []string
		want  api.Errno
	}{
		{times(" ", 4001), nil, api.ErrMany},
		{times(" ", 4001), []string{" "}, api.ErrMany},
		{links + "<a href=b>", nil, api.ErrMany},
		{links + "<a href=b>", slices.Repeat([]string{" "}, 61), api.ErrMany},
		{links, slices.Repeat([]string{" "}, 61), api.ErrForm},
		{links, slices.Repeat([]string{""}, 59), api.ErrForm},
		{links, slices.Repeat([]string{""}, 60), api.OK},
		{links, slices.Repeat([]string{" "}, 60), api.ErrText},
		{links, slices.Repeat([]string{long}, 60), api.ErrMany},
		{links, slices.Repeat([]string{long}, 59), api.ErrForm},
		{links, append(slices.Repeat([]string{long}, 59), "="), api.ErrText},
		{links, append(slices.Repeat([]string{long}, 59), ""), api.ErrMany},
		{"", []string{""}, api.ErrForm},
		{"", []string{" "}, api.ErrForm},
		{"<a href=b>", nil, api.ErrForm},
		{"<a href=b>", []string{"", ""}, api.ErrForm},
		{"<a href=b>", []string{" ", long}, api.ErrForm},
		{"<a href=b", []string{""}, api.ErrForm},
		{"<a href=b>", []string{long + " "}, api.ErrText},
		{"<a href=b src=c>", []string{long, " "}, api.ErrText},
		{"<a href=b src=c>", []string{" ", long}, api.ErrText},
	} {
		if _, e := wantPut(t, c.page, c.texts); e != c.want {
			t.Errorf("Put(%.80q, %.80q): %d; want %d", c.page, c.texts, e, c.want)
		}
	}
}

func TestPutLimit(t *testing.T) {
	wide := "<a href='" + times("b", 1000) + "' src=c>"
	for _, c := range []struct {
		page  string
		texts []string
		most  bool // it is just not too many bytes
	}{
		{"<a href=b>", []string{times("q", 3991)}, true},
		{"<a href=b>", []string{times("q", 3992)}, false},
		{"<a href=b>" + times(" ", 3990), []string{"q"}, true},
		{"<a href=b>" + times(" ", 3990), []string{"qq"}, false},
		{times(" ", 3990) + "<a href=b>", []string{"q"}, true},
		{times(" ", 3990) + "<a href=b>", []string{"qq"}, false},
		{times(" ", 3990) + "<a href=b>", []string{""}, true},
		{times(" ", 4000-len(wide)) + wide, []string{"q", times("r", 1000)}, true},
		{times(" ", 4000-len(wide)) + wide, []string{"q", times("r", 1001)}, false},
		{times(" ", 4000-len(wide)) + wide, []string{times("q", 999), "rr"}, true},
		{times(" ", 4000-len(wide)) + wide, []string{times("q", 1001), ""}, false},
		{"<a src=c href='" + times("b", 3983) + "'>", []string{times("q", 3984), "r"}, false},
		{"<a src=c href='" + times("b", 3983) + "'>", []string{times("q", 3983), "r"}, true},
	} {
		s, e := wantPut(t, c.page, c.texts)
		if c.most && (len(s) != 4000 || e != api.OK) || !c.most && e != api.ErrMany {
			t.Errorf("Put(%.30q of %d, %.30q): %d bytes, %d", c.page, len(c.page), c.texts, len(s), e)
		}
	}
}

// Whatever a page is, and whichever of its links get texts: these are found, and the others as they were.
func TestPutOfAllTexts(t *testing.T) {
	put := func(ahead, behind string) func(s string) {
		return func(s string) {
			s = ahead + s + behind
			l, _ := Find([]byte(s))
			for which := range 1 << len(l) {
				texts := make([]string, len(l))
				for i := range texts {
					if which>>i&1 != 0 {
						texts[i] = []string{"q", "/r/", "!--"}[i%3]
					}
				}
				wantPut(t, s, texts)
			}
		}
	}
	allTexts([]string{"<a ", "</a ", ">", "href=", "src=", "'", "\"", " ", "b", "<!--"}, 5, put("", ">"))
	allTexts([]string{"href", "src", "=", "'", "\"", " ", "/", ">", "&amp;"}, 5, put("<a ", ">"))
	allTexts([]string{"=", "'", "\"", "\n", "/", ">", "<", "b"}, 4, put("<a href", " src=c>"))
	allTexts([]string{"<a href=b>", "<a href='>", "<a src=\"\">", "'", "<!--", "-->"}, 5, put("", ""))
}

func TestOnlyReadsWhatIsHandedIn(t *testing.T) {
	const page, room = "<a href=b&amp;c src='d'>", "<e href=f>, and room behind"
	whole := []byte(page + room)
	b := whole[:len(page)]
	textRoom := []string{"q", "", "room"}
	l, e := Find(b)
	if len(l) != 2 || e != api.OK {
		t.Fatalf("Find: %v, %d", l, e)
	}
	out, e := Put(b, textRoom[:2])
	if string(out) != "<a href=q src='d'>" || e != api.OK {
		t.Fatalf("Put: %q, %d", out, e)
	}
	Put(b, textRoom)
	Put(b, []string{"q", " "})
	if string(whole) != page+room || !slices.Equal(textRoom, []string{"q", "", "room"}) {
		t.Error("what was handed in, or the room behind it, was changed")
	}
	clear(whole)
	clear(textRoom)
	if !slices.Equal(l, []api.Link{{From: 8, To: 15, Text: "b&c"}, {From: 21, To: 22, Text: "d"}}) {
		t.Error("Find keeps its bytes")
	}
	if string(out) != "<a href=q src='d'>" {
		t.Error("Put keeps what was handed in")
	}
}

func TestAnswersNewMemory(t *testing.T) {
	for page, texts := range map[string][]string{"<a href=b>": {""}, "<a href=c>": {"q"}, "no links": nil, "<a href=>": {""}} {
		b := []byte(page)
		out, _ := Put(b, texts)
		clear(out[:cap(out)])
		l, _ := Find(b)
		clear(l[:cap(l)])
		if string(b) != page {
			t.Errorf("an answer of %q shares memory with it", page)
		}
		wantFind(t, page)
		wantPut(t, page, texts)
	}
}

func FuzzFind(f *testing.F) {
	for _, s := range []string{"", "<a x href='b'><!-- <a href=c> --><IMG SRC=d&amp;e>", "</a href=b><?b><!a>", "<a href href=c =src=d", times("<a href=b>", 61)} {
		f.Add(s)
	}
	f.Fuzz(func(t *testing.T, s string) { wantFind(t, s) })
}

func FuzzPut(f *testing.F) {
	f.Add("<a x href='b'><IMG SRC=d&amp;e>", "q", "")
	f.Add("<a href=>", "/", " ")
	f.Fuzz(func(t *testing.T, s, first, other string) {
		l, _ := Find([]byte(s))
		texts := slices.Repeat([]string{other}, len(l))
		if len(texts) > 0 {
			texts[0] = first
		}
		wantPut(t, s, texts)
		wantPut(t, s, []string{first, other})
	})
}
