package bundle

import (
	"fmt"
	library "net/url"
	"regexp"
	"slices"
	"strings"
	"testing"

	"scrapbook/api"
	"scrapbook/link"
	"scrapbook/part"
	"scrapbook/url"
)

// A second reading of the chapter, by going down the tree and by patterns: what the package answers is held against it. What the chapters ahead promise (packages part, url, link) is taken from these packages; their own tests hold them to it.

var (
	ahead    = regexp.MustCompile(`\A[^#]*`)
	idForm   = regexp.MustCompile(`\Acid:([^#]+)`)
	manyForm = regexp.MustCompile(`\Amultipart/`)
)

func expectedLed(from, to string) string {
	u, e := url.Parse(from)
	v, e2 := url.Parse(to)
	w, e3 := url.Lead(u, v)
	s, e4 := url.Print(w)
	if slices.Max([]api.Errno{e, e2, e3, e4}) != api.OK {
		return ""
	}
	return s
}

// seen is a part with what is told of it.
type seen struct {
	p     api.Part
	where string
}

// expectedSeen lists p, which is right, and all in it; around: where what it is in stands.
func expectedSeen(p api.Part, around string) []seen {
	if around == "" {
		around = "thismessage:/"
	}
	where := around
	if p.Location != "" {
		where = expectedLed(around, p.Location)
	}
	l := []seen{{p, where}}
	for _, q := range p.Parts {
		l = append(l, expectedSeen(q, where)...)
	}
	return l
}

func expectedWhere(p api.Part) ([]string, api.Errno) {
	if e := part.Check(p); e != api.OK {
		return nil, e
	}
	var out []string
	for _, x := range expectedSeen(p, "") {
		out = append(out, x.where)
	}
	return out, api.OK
}

// expectedFind looks from the last part on, so that the first one that fits is what stays.
func expectedFind(all []seen, to string) int {
	found := -1
	for i := len(all) - 1; i >= 0 && to != ""; i-- {
		x := all[i]
		if manyForm.MatchString(x.p.Type) {
			continue
		}
		if strings.HasPrefix(to, "cid:") {
			if m := idForm.FindStringSubmatch(to); m != nil && m[1] == x.p.ID {
				found = i
			}
		} else if x.p.Location != "" && x.where != "" && ahead.FindString(x.where) == ahead.FindString(to) {
			found = i
		}
	}
	return found
}

func expectedGoals(p api.Part) ([]api.Goal, api.Errno) {
	if e := part.Check(p); e != api.OK {
		return nil, e
	}
	all := expectedSeen(p, "")
	var goals []api.Goal
	for i, x := range all {
		if !slices.Contains([]string{"text/html"}, x.p.Type) {
			continue
		}
		l, e := link.Find(x.p.Body)
		if e != api.OK {
			return nil, e
		}
		base := map[bool]string{true: "thismessage:/", false: x.where}[x.where == ""]
		for _, one := range l {
			to := expectedLed(base, one.Text)
			goals = append(goals, api.Goal{Part: i, L: one, To: to, Find: expectedFind(all, to)})
		}
	}
	return goals, api.OK
}

// wantLed holds Led against the second reading, and what is led to against what the chapters say of it.
func wantLed(t *testing.T, from, to string) string {
	t.Helper()
	s, want := Led(from, to), expectedLed(from, to)
	if s != want {
		t.Fatalf("Led(%q, %q): %q; want %q", from, to, s, want)
	}
	if s != "" && (Led(from, s) != s || Led("y://z/y?z", s) != s) {
		t.Fatalf("Led(%q, %q): %q, which leads elsewhere", from, to, s)
	}
	return s
}

// wantBoth holds Where and Goals of p against the second reading.
func wantBoth(t *testing.T, p api.Part) ([]string, []api.Goal) {
	t.Helper()
	where, e := Where(p)
	if want, wantErr := expectedWhere(p); !slices.Equal(where, want) || e != wantErr {
		t.Fatalf("Where(%s): %q, %d; want %q, %d", told(p), where, e, want, wantErr)
	}
	if e != api.OK && where != nil {
		t.Fatalf("Where(%s): a list with an error", told(p))
	}
	goals, e := Goals(p)
	if want, wantErr := expectedGoals(p); !slices.Equal(goals, want) || e != wantErr {
		t.Fatalf("Goals(%s): %.500q, %d; want %.500q, %d", told(p), fmt.Sprint(goals), e, fmt.Sprint(want), wantErr)
	}
	if e != api.OK && goals != nil {
		t.Fatalf("Goals(%s): a list with an error", told(p))
	}
	return where, goals
}

func wantError(t *testing.T, what string, p api.Part, where, goals api.Errno) {
	t.Helper()
	wantBoth(t, p)
	if _, e := Where(p); e != where {
		t.Errorf("Where of %s: %d; want %d", what, e, where)
	}
	if _, e := Goals(p); e != goals {
		t.Errorf("Goals of %s: %d; want %d", what, e, goals)
	}
}

// told is p as text, not longer than a reader bears.
func told(p api.Part) string {
	inside := ""
	for _, q := range p.Parts {
		inside += " " + told(q)
	}
	return fmt.Sprintf("{%.40q at %.130q, ID %.130q: %.300q%s}", p.Type, p.Location, p.ID, p.Body, inside)
}

func many(location string, l ...api.Part) api.Part {
	return api.Part{Type: "multipart/x", Location: location, Parts: l}
}

func page(location, body string) api.Part {
	return api.Part{Type: "text/html", Location: location, Body: []byte(body)}
}

// linked is the page with these links.
func linked(location string, texts ...string) api.Part {
	body := ""
	for _, s := range texts {
		body += "<a href='" + s + "'>"
	}
	return page(location, body)
}

func picture(location, id string) api.Part {
	return api.Part{Type: "image/png", Location: location, ID: id, How: api.Base64, Body: []byte("<a href='x:no'>")}
}

func times(s string, n int) string { return strings.Repeat(s, n) }

// goal: where a link leads, and to which part.
type goal struct {
	to   string
	find int
}

// wantGoals: do the links of all pages of p lead there?
func wantGoals(t *testing.T, p api.Part, want ...goal) {
	t.Helper()
	_, l := wantBoth(t, p)
	got := []goal{}
	for _, g := range l {
		got = append(got, goal{g.To, g.Find})
	}
	if !slices.Equal(got, want) {
		t.Errorf("Goals(%s): %.500q; want %.500q", told(p), fmt.Sprint(got), fmt.Sprint(want))
	}
}

func wantPlaces(t *testing.T, p api.Part, want ...string) {
	t.Helper()
	if l, _ := wantBoth(t, p); !slices.Equal(l, want) {
		t.Errorf("Where(%s): %q; want %q", told(p), l, want)
	}
}

func TestLed(t *testing.T) {
	for _, c := range [][3]string{
		{"http://h/a/b?c", "../d#e", "http://h/d#e"},
		{"http://h/p", "q", "http://h/q"},
		{"HTTP://H/P", "Q", "http://h/Q"},
		{"x:a", "HTTP://H/P", "http://h/P"},
		{"http://h/a?b#c", "", "http://h/a?b"},
		{"http://h/a?b#c", "#d", "http://h/a?b#d"},
		{"http://h/a?b#c", "?", "http://h/a?"},
		{"http://h", "a", "http://h/a"},
		{"http://h/a", "//g", "http://g"},
		{"http://h/a", "cid:x", "cid:x"},
		{"http://h/a", "CID:X", "cid:X"},
		{"cid:x", "y", "cid:y"},
		{"cid:x", "", "cid:x"},
		{"thismessage:/", "", "thismessage:/"},
		{"thismessage:/", "a", "thismessage:/a"},
		{"thismessage:/", "../a", "thismessage:/a"},
		{"thismessage:/", "//h", "thismessage://h"},
		{"thismessage:/", "#f", "thismessage:/#f"},
		{"x:a/b", "..", "x:a/.."},
		{"x:", "a", "x:a"},
	} {
		if s := wantLed(t, c[0], c[1]); s != c[2] {
			t.Errorf("Led(%q, %q): %q; want %q", c[0], c[1], s, c[2])
		}
	}
}

func TestLedThatCannotBeTold(t *testing.T) {
	for _, c := range [][2]string{
		// Where it leads from is none, or has no Scheme.
		{"", ""}, {"", "a"}, {"a", "b"}, {"a", "x:b"}, {"//h/a", "http://h/b"}, {"/", "/"}, {"?q", ""}, {":", "x:b"}, {"1:a", "x:b"}, {"x: ", "x:b"}, {"x:<", "x:b"}, {"x:" + times("a", 119), "x:b"}, {"\x00", "x:b"},
		// What leads is none.
		{"x:a", " "}, {"x:a", ":"}, {"x:a", "1:b"}, {"x:a", "b c"}, {"x:a", "\xff"}, {"x:a", "é"}, {"x:a", "##"}, {"x:a", "\\"}, {"x:a", times("b", 121)},
		// Both are none.
		{" ", " "}, {":", ":"},
		// It would be taken for another one, or is too long.
		{"x:/a", ".//b"}, {"x:a", "/..//b"}, {"x:/" + times("a", 100) + "/", times("b", 17)}, {"http://h/", times("b", 112)},
	} {
		if s := wantLed(t, c[0], c[1]); s != "" {
			t.Errorf("Led(%q, %q): %q", c[0], c[1], s)
		}
	}
	for _, c := range [][2]string{{"x:" + times("a", 118), "x:b"}, {"x:a", times("b", 118)}, {"x:a", "y:" + times("b", 118)}, {"x:/" + times("a", 100) + "/", times("b", 16)}, {"http://h/", times("b", 111)}} {
		if s := wantLed(t, c[0], c[1]); s == "" {
			t.Errorf("Led(%q, %q): it is just not too long", c[0], c[1])
		}
	}
	if s := Led("x:a", times("b", 119)); s != "" {
		t.Errorf("Led to what is too long with its Scheme: %q", s)
	}
}

// Go's own library leads to the same place from a base with a Host and a Path.
func TestLedAsTheLibrary(t *testing.T) {
	for _, from := range []string{"x://h/", "x://h/a/b?q", "x://h/a/b/c/d"} {
		base, err := library.Parse(from)
		if err != nil {
			t.Fatal(err)
		}
		for _, to := range []string{"", "a", "/", "/a", "./a", "../a", "../../a/", "?", "?r", "#g", "a?r#g", "//g", "//g/a/../b", "y:a", "y://g/.", ".", ".."} {
			there, err := base.Parse(to)
			if err != nil {
				t.Fatal(err)
			}
			if s := wantLed(t, from, to); s != there.String() {
				t.Errorf("Led(%q, %q): %q; the library says %q", from, to, s, there)
			}
		}
	}
}

func TestLedOfAll(t *testing.T) {
	l := []string{"", ":", "/", "//", "//h", "a", "a/b", "..", "./", ".//c", "/..//c", "?", "?q", "#", "#f", "a?q#f", "x:", "x:a", "x:a/b#f", "x:/", "x:/a/b?q", "x://h", "x://h?q", "x://h/a/b", "x://h/a/../b", "X://H/A", "cid:a", "CID:a#f", "thismessage:/", " ", "a b", "a:b:c", "1:a", "é", times("a", 119), times("a", 121), "x:/" + times("a", 117), "x://" + times("h", 116)}
	for _, from := range l {
		for _, to := range l {
			wantLed(t, from, to)
		}
	}
}

func TestWhere(t *testing.T) {
	// No Location: where what it is in stands.
	wantPlaces(t, page("", ""), "thismessage:/")
	wantPlaces(t, many("", page("", ""), picture("", "x")), "thismessage:/", "thismessage:/", "thismessage:/")
	wantPlaces(t, many("http://h/a/b", page("", ""), picture("c", "x")), "http://h/a/b", "http://h/a/b", "http://h/a/c")
	wantPlaces(t, many("http://h/a#f", page("", ""), page("#g", ""), page("b", "")), "http://h/a#f", "http://h/a#f", "http://h/a#g", "http://h/b")
	// A Location of its own.
	wantPlaces(t, page("a", ""), "thismessage:/a")
	wantPlaces(t, page("HTTP://H/./A", ""), "http://h/A")
	wantPlaces(t, page("http://h/a/../b?c#d", ""), "http://h/b?c#d")
	wantPlaces(t, many("a/b/", page("c", ""), page("/c", ""), page("//c", ""), page("x:c", ""), page("..", "")), "thismessage:/a/b/", "thismessage:/a/b/c", "thismessage:/c", "thismessage://c", "x:c", "thismessage:/a/")
	// Each hangs on the one that it is in, and on none beside it.
	wantPlaces(t, many("http://h/a/", many("b/", page("c", ""), page("../d", ""), page("", "")), page("e", ""), many("", page("f", "")), many("http://g", page("i", ""))),
		"http://h/a/", "http://h/a/b/", "http://h/a/b/c", "http://h/a/d", "http://h/a/b/", "http://h/a/e", "http://h/a/", "http://h/a/f", "http://g", "http://g/i")
}

func TestWhereItCannotBeTold(t *testing.T) {
	// Of what is in it, all begins anew.
	wantPlaces(t, page(":", ""), "")
	wantPlaces(t, many(":", page("", ""), picture("c", "x")), "", "thismessage:/", "thismessage:/c")
	wantPlaces(t, many("http://h/a/", many("1:", page("", ""), page("b", "")), page("b", ""), page("\\", ""), page("c", "")), "http://h/a/", "", "thismessage:/", "thismessage:/b", "http://h/a/b", "", "http://h/a/c")
	wantPlaces(t, many("x:/a", many(".//b", page("c", ""))), "x:/a", "", "thismessage:/c")
	wantPlaces(t, many(":", many(":", page(":", ""), page("", "")), many("", page("a", ""))), "", "", "", "thismessage:/", "thismessage:/", "thismessage:/a")
	// Not each Word is an address, and not each address is short enough when it is led to.
	wantPlaces(t, page(times("a", 107), ""), "thismessage:/"+times("a", 107))
	wantPlaces(t, page(times("a", 108), ""), "")
	wantPlaces(t, page("x:"+times("a", 118), ""), "x:"+times("a", 118))
	wantPlaces(t, many("http://h/"+times("a", 60)+"/", page(times("b", 50), ""), page(times("b", 51), "")), "http://h/"+times("a", 60)+"/", "http://h/"+times("a", 60)+"/"+times("b", 50), "")
	for _, s := range []string{"`", "^", "{", "|", "}", "\\", "##", "a#b#c", ":a", "1:a", "a_b:c", "?:#:#"} {
		wantPlaces(t, page(s, ""), "")
	}
}

func TestGoals(t *testing.T) {
	p := many("http://h/a/b", page("", "<a href='c'><img SRC=cid:x><a href=#d>"), picture("c", "x"))
	_, l := wantBoth(t, p)
	want := []api.Goal{
		{Part: 1, L: api.Link{From: 9, To: 10, Text: "c"}, To: "http://h/a/c", Find: 2},
		{Part: 1, L: api.Link{From: 21, To: 26, Text: "cid:x"}, To: "cid:x", Find: 2},
		{Part: 1, L: api.Link{From: 35, To: 37, Text: "#d"}, To: "http://h/a/b#d", Find: -1},
	}
	if !slices.Equal(l, want) {
		t.Errorf("Goals: %v; want %v", l, want)
	}
	wantGoals(t, many("", page("http://h/p", "<img src=q>"), picture("http://h/q", "")), goal{"http://h/q", 2})
	// Each page leads from where it stands, and has its own number; parts that are no pages have no links.
	p = many("http://h/", linked("a/b", "c", "../d"), many("", picture("a/c", ""), linked("d", "a/c", "a/b?q", "a/b#f")), linked("", "d"))
	wantGoals(t, p, goal{"http://h/a/c", 3}, goal{"http://h/d", 4}, goal{"http://h/a/c", 3}, goal{"http://h/a/b?q", -1}, goal{"http://h/a/b#f", 1}, goal{"http://h/d", 4})
	_, l = wantBoth(t, p)
	numbers := []int{}
	for _, g := range l {
		numbers = append(numbers, g.Part)
	}
	if !slices.Equal(numbers, []int{1, 1, 4, 4, 4, 5}) {
		t.Errorf("the links are told of parts %v", numbers)
	}
	// A bundle may be one page.
	wantGoals(t, linked("x://h/a", "a", "", "#f", "b", "cid:a", "/a?"), goal{"x://h/a", 0}, goal{"x://h/a", 0}, goal{"x://h/a#f", 0}, goal{"x://h/b", -1}, goal{"cid:a", -1}, goal{"x://h/a?", -1})
	wantGoals(t, page("", "no links"))
	wantGoals(t, many("", picture("a", "b")))
}

func TestPagesAlone(t *testing.T) {
	for kind, want := range map[string]int{"text/html": 1, "text/htm": 0, "text/html5": 0, "text/xhtml": 0, "text/plain": 0, "application/xhtml+xml": 0, "html/text": 0, "image/png": 0} {
		p := page("x:a", "<a href=x:a>")
		p.Type, p.Charset, p.How = kind, "utf-8", api.Quoted
		if _, l := wantBoth(t, p); len(l) != want {
			t.Errorf("a part that is %s: %v", kind, l)
		}
	}
}

func TestGoalsThatCannotBeTold(t *testing.T) {
	// A page that stands nowhere leads as if nothing were told of it.
	wantGoals(t, linked(":", "a", "", "x:b"), goal{"thismessage:/a", -1}, goal{"thismessage:/", -1}, goal{"x:b", -1})
	wantGoals(t, many("http://h/", linked(":", "a", ""), picture("thismessage:/a", ""), picture("a", "")), goal{"thismessage:/a", 2}, goal{"thismessage:/", -1})
	// What can't be told is found nowhere, be there parts of which nothing can be told.
	wantGoals(t, many("", linked("http://h/", ":", "a b", "\x00", times("a", 121), times("a", 112), "&amp;", "&amp;|"), picture(":", ""), picture("", ""), picture("\\", ":")),
		goal{"", -1}, goal{"", -1}, goal{"", -1}, goal{"", -1}, goal{"", -1}, goal{"http://h/&", -1}, goal{"", -1})
	wantGoals(t, many(":", linked(":", ":"), picture(":", "")), goal{"", -1})
}

func TestFindByAddress(t *testing.T) {
	// The first one of them, be it the page, or behind it, or deeper.
	wantGoals(t, many("http://h/", picture("a", ""), linked("a", "a", "#f"), picture("a", "")), goal{"http://h/a", 1}, goal{"http://h/a#f", 1})
	wantGoals(t, many("http://h/", linked("a", "a", "#f"), picture("a", "")), goal{"http://h/a", 1}, goal{"http://h/a#f", 1})
	wantGoals(t, many("http://h/", linked("", "a", "b"), many("", picture("a", "")), picture("a", ""), picture("b", "")), goal{"http://h/a", 3}, goal{"http://h/b", 5})
	// A part without a Location of its own is not found where it stands.
	wantGoals(t, many("http://h/a", linked("", "a", "#f", ""), picture("", "a")), goal{"http://h/a", -1}, goal{"http://h/a#f", -1}, goal{"http://h/a", -1})
	wantGoals(t, many("http://h/a", linked("", "a"), picture("", ""), picture("#g", "")), goal{"http://h/a", 3})
	wantGoals(t, linked("", "", "/", "thismessage:/"), goal{"thismessage:/", -1}, goal{"thismessage:/", -1}, goal{"thismessage:/", -1})
	// What has Parts is not found.
	wantGoals(t, many("http://h/a", linked("b", "a", "c"), many("c", picture("d", "")), many("a", picture("c", ""), picture("a", ""))), goal{"http://h/a", 6}, goal{"http://h/c", 5})
	wantGoals(t, many("http://h/a", linked("b", "a")), goal{"http://h/a", -1})
	like := picture("a", "")
	like.Type = "multipartx/y"
	wantGoals(t, many("http://h/", linked("b", "a"), like), goal{"http://h/a", 2})
	// What stands behind a `#` counts on neither side, but what stands behind a `?` does.
	wantGoals(t, many("http://h/", linked("", "a", "a#", "a#f", "a#f?q", "a?q", "a?q#f", "a?", "b", "b#", "b?q#f", "b?r"), picture("a#g", ""), picture("a?q#", ""), picture("b?q", ""), picture("b#?r", "")),
		goal{"http://h/a", 2}, goal{"http://h/a#", 2}, goal{"http://h/a#f", 2}, goal{"http://h/a#f?q", 2}, goal{"http://h/a?q", 3}, goal{"http://h/a?q#f", 3}, goal{"http://h/a?", -1}, goal{"http://h/b", 5}, goal{"http://h/b#", 5}, goal{"http://h/b?q#f", 4}, goal{"http://h/b?r", -1})
	// All of the address must be the same, as it is told.
	wantGoals(t, many("", linked("", "HTTP://H/a", "http://h/A", "http://h/a/", "http://h/a/b/..", "http://h/a/b/../../a", "http://h/%61", "https://h/a", "http://h:80/a", "//h/a", "a", "http://h/aa", "http://h/"), picture("Http://h/./a", "")),
		goal{"http://h/a", 2}, goal{"http://h/A", -1}, goal{"http://h/a/", -1}, goal{"http://h/a/", -1}, goal{"http://h/a", 2}, goal{"http://h/%61", -1}, goal{"https://h/a", -1}, goal{"http://h:80/a", -1}, goal{"thismessage://h/a", -1}, goal{"thismessage:/a", -1}, goal{"http://h/aa", -1}, goal{"http://h/", -1})
	// Without an address around, names are found, too.
	wantGoals(t, many("", linked("p/q.html", "../pic.png", "r"), picture("pic.png", ""), picture("p/r", "")), goal{"thismessage:/pic.png", 2}, goal{"thismessage:/p/r", 3})
	// `&amp;` is a `&`.
	wantGoals(t, many("", linked("", "a?b&amp;c"), picture("a?b&c", "")), goal{"thismessage:/a?b&c", 2})
}

func TestFindByID(t *testing.T) {
	// The first one of them.
	wantGoals(t, many("", linked("", "cid:x", "cid:y"), picture("", "x"), picture("", "y"), picture("", "x")), goal{"cid:x", 2}, goal{"cid:y", 3})
	own := linked("", "cid:x")
	own.ID = "x"
	wantGoals(t, many("", own, picture("", "x")), goal{"cid:x", 1})
	wantGoals(t, many("", picture("", "x"), own), goal{"cid:x", 1})
	// What has Parts is not found.
	whole, inner := many("", linked("", "cid:w", "cid:i", "cid:j")), many("", picture("", "i"))
	whole.ID, inner.ID = "w", "j"
	whole.Parts = append(whole.Parts, inner, picture("", "j"))
	wantGoals(t, whole, goal{"cid:w", -1}, goal{"cid:i", 3}, goal{"cid:j", 4})
	// No ID is none, and what stands behind the `#` is left out.
	wantGoals(t, many("", linked("", "cid:", "cid:#x", "cid:x#", "cid:x#f", "cid:x?q", "cid:x?r", "cid:y"), picture("", ""), picture("", "x"), picture("", "x?q"), picture("", "y#f"), picture("", "#x")),
		goal{"cid:", -1}, goal{"cid:#x", -1}, goal{"cid:x#", 3}, goal{"cid:x#f", 3}, goal{"cid:x?q", 4}, goal{"cid:x?r", -1}, goal{"cid:y", -1})
	// It is as it is written; its scheme is in small letters.
	wantGoals(t, many("", linked("", "CID:x", "cid:X", "Cid:%78", "cidx:x", "xcid:x", "cid:cid:x", "cid:a@b.c", "cid:/a/../b", "cid://H/x", "cid", "cid/x"), picture("", "x"), picture("", "a@b.c"), picture("", "cid:x"), picture("", "/b"), picture("", "//h/x")),
		goal{"cid:x", 2}, goal{"cid:X", -1}, goal{"cid:%78", -1}, goal{"cidx:x", -1}, goal{"xcid:x", -1}, goal{"cid:cid:x", 4}, goal{"cid:a@b.c", 3}, goal{"cid:/b", 5}, goal{"cid://h/x", 6}, goal{"thismessage:/cid", -1}, goal{"thismessage:/cid/x", -1})
	// A Location that begins so isn't asked, nor an ID by another address.
	wantGoals(t, many("", linked("", "cid:x", "x", "thismessage:/y"), picture("cid:x", ""), picture("x", "y"), picture("", "thismessage:/y")), goal{"cid:x", -1}, goal{"thismessage:/x", 3}, goal{"thismessage:/y", -1})
	// A page may stand at one.
	wantGoals(t, many("", linked("cid:x", "y", "", "#f"), picture("", "y"), picture("cid:x", "z"), picture("", "x")), goal{"cid:y", 2}, goal{"cid:x", 4}, goal{"cid:x#f", 4})
}

func TestErrors(t *testing.T) {
	links := times("<a href=b>", 60)
	wantError(t, "nothing", api.Part{}, api.ErrText, api.ErrText)
	wantError(t, "a Location that is no Word", page("a b", ""), api.ErrText, api.ErrText)
	wantError(t, "a Location that is too long", page(times("a", 121), ""), api.ErrText, api.ErrText)
	wantError(t, "an ID that is no Word", picture("", "<x>"), api.ErrText, api.ErrText)
	wantError(t, "no such How", api.Part{Type: "a/b", How: 3}, api.ErrRange, api.ErrRange)
	wantError(t, "a long Body", page("", times(" ", 4001)), api.ErrMany, api.ErrMany)
	wantError(t, "the longest Body", page("", times(" ", 4000)), api.OK, api.OK)
	wantError(t, "no Parts", many(""), api.ErrForm, api.ErrForm)
	wantError(t, "too deep", many("", many("", many("", page("", "")))), api.ErrMany, api.ErrMany)
	wantError(t, "just not too deep", many("", many("", page("", ""))), api.OK, api.OK)
	wantError(t, "too many links", page("", links+"<a href=b>"), api.OK, api.ErrMany)
	wantError(t, "just not too many links", page("", links), api.OK, api.OK)
	wantError(t, "too many links of the last part", many("", page("", links), page("", links+"<a href=b>")), api.OK, api.ErrMany)
	wantError(t, "too many links of no page", many("", page("", links), api.Part{Type: "text/plain", Body: []byte(links + links)}), api.OK, api.OK)
	// Check's error is told first, be it that of a part behind.
	wantError(t, "too many links, and a wrong Type", many("", page("", links+"<a href=b>"), api.Part{Type: "a"}), api.ErrText, api.ErrText)
	wantError(t, "too many links, and no Parts", many("", page("", links+"<a href=b>"), many("")), api.ErrForm, api.ErrForm)
}

func TestAsManyPartsAsThereMayBe(t *testing.T) {
	var l []api.Part
	want := []string{"x://h/0/"}
	for i := range 11 {
		l = append(l, page(fmt.Sprintf("../%d", i+1), times("<a href=11 src='cid:11'>", 30)))
		want = append(want, fmt.Sprintf("x://h/%d", i+1))
	}
	l[10].ID = "11"
	wantPlaces(t, many("x://h/0/", l...), want...)
	_, goals := wantBoth(t, many("x://h/0/", l...))
	if len(goals) != 660 {
		t.Errorf("%d goals of 11 pages with 60 links each", len(goals))
	}
	for i, g := range goals {
		if g.Part != 1+i/60 || g.Find != 11 {
			t.Errorf("goal %d: %+v", i, g)
		}
	}
	wantError(t, "a part too many", many("x://h/0/", append(l, page("", ""))...), api.ErrMany, api.ErrMany)
	wantError(t, "a part too many, in another", many("x://h/0/", append(l[:10:10], many("", page("", "")))...), api.ErrMany, api.ErrMany)
}

// One bundle of three levels, with each choice of these Locations and IDs, and links to all that they may say.
func TestAllChoicesOfPlaces(t *testing.T) {
	locations := []string{"", ":", "a", "b/", "#f", "x://h/a", "x://h/b/a#f", "cid:a", "../a"}
	ids := []string{"", "a"}
	texts := []string{"", "a", "#f", "b/a", "/a", "x://h/a", "x://h/b/a", "cid:a", "cid:", ":", "thismessage:/a#g"}
	for _, outer := range locations {
		for _, first := range locations {
			for _, inner := range locations {
				for _, last := range locations {
					for n := range 4 {
						deep, alone, one := many(inner, linked("", texts...)), picture(last, ids[n%2]), linked(first, texts...)
						deep.ID, one.ID = "a", ids[n/2]
						wantBoth(t, many(outer, one, deep, alone))
					}
				}
			}
		}
	}
}

func TestOnlyReadsWhatIsHandedIn(t *testing.T) {
	body, room := "<a href=a src='cid:x'>", "<a href=b>, and room behind"
	whole := []byte(body + room)
	parts := []api.Part{{Type: "text/html", Body: whole[:len(body)]}, picture("a", "x"), many("", picture("room", "room"))}
	p := many("x://h/", parts[:2]...)
	before := fmt.Sprint(parts, p)
	where, e := Where(p)
	goals, e2 := Goals(p)
	if e != api.OK || e2 != api.OK || fmt.Sprint(parts, p) != before || string(whole) != body+room {
		t.Fatalf("errors %d, %d, or what was handed in, or the room behind it, was changed", e, e2)
	}
	clear(whole)
	clear(parts)
	if !slices.Equal(where, []string{"x://h/", "x://h/", "x://h/a"}) {
		t.Errorf("Where keeps what was handed in: %q", where)
	}
	if want := []api.Goal{{Part: 1, L: api.Link{From: 8, To: 9, Text: "a"}, To: "x://h/a", Find: 2}, {Part: 1, L: api.Link{From: 15, To: 20, Text: "cid:x"}, To: "cid:x", Find: 2}}; !slices.Equal(goals, want) {
		t.Errorf("Goals keeps what was handed in: %v", goals)
	}
}

func TestAnswersNewMemory(t *testing.T) {
	p := many("x://h/", linked("", "a", "cid:x"), picture("a", "x"))
	where, _ := Where(p)
	goals, _ := Goals(p)
	clear(where[:cap(where)])
	clear(goals[:cap(goals)])
	wantPlaces(t, p, "x://h/", "x://h/", "x://h/a")
	wantGoals(t, p, goal{"x://h/a", 2}, goal{"cid:x", 2})
}

func FuzzLed(f *testing.F) {
	f.Add("http://h/a/b?c", "../d#e")
	f.Add("thismessage:/", ":")
	f.Add("x:/a", ".//b")
	f.Fuzz(func(t *testing.T, from, to string) { wantLed(t, from, to) })
}

func FuzzGoals(f *testing.F) {
	f.Add("http://h/a/b", "", "<a href='c'><img SRC=cid:x><a href=#d>", "c", "x")
	f.Add(":", "a", "<a href=''>", "a#f", "")
	f.Fuzz(func(t *testing.T, outer, location, body, last, id string) {
		wantBoth(t, many(outer, page(location, body), many(last, picture("", id)), picture(last, id)))
		wantBoth(t, page(location, body))
	})
}
