package url

import (
	library "net/url"
	"regexp"
	"strings"
	"testing"

	"scrapbook/api"
)

// A second reading of the chapter: what the package answers is held against it.

var (
	schemeForm = regexp.MustCompile(`\A([a-z][-+.0-9a-z]*)?\z`)
	hostForm   = regexp.MustCompile(`\A[!$-.0-9:;=@\[\]_a-z~]*\z`)
	pathForm   = regexp.MustCompile(`\A[!$-;=@A-Z\[\]_a-z~]*\z`)
	tailForm   = regexp.MustCompile(`\A[!$-;=?@A-Z\[\]_a-z~]*\z`)
	wholeForm  = regexp.MustCompile(`(?s)\A(?:([^:/?#]*):)?(?://([^/?#]*))?([^?#]*)(?:\?([^#]*))?(?:#(.*))?\z`)
)

// apart takes a text apart as it is; named: it has a `:` that ends a Scheme, though that may be "".
func apart(s string) (u api.URL, named bool) {
	m := wholeForm.FindStringSubmatchIndex(s)
	group := func(i int) (string, bool) {
		if m[2*i] < 0 {
			return "", false
		}
		return s[m[2*i]:m[2*i+1]], true
	}
	u.Scheme, named = group(1)
	u.Host, u.HasHost = group(2)
	u.Path, _ = group(3)
	u.Query, u.HasQuery = group(4)
	u.Frag, u.HasFrag = group(5)
	return u, named
}

func expectedText(u api.URL) string {
	return map[bool]string{true: u.Scheme + ":"}[u.Scheme != ""] + map[bool]string{true: "//" + u.Host}[u.HasHost] + u.Path + map[bool]string{true: "?" + u.Query}[u.HasQuery] + map[bool]string{true: "#" + u.Frag}[u.HasFrag]
}

// expectedCheck: the form is right if the text, taken apart, is the same again.
func expectedCheck(u api.URL) api.Errno {
	if max(len(u.Scheme), len(u.Host), len(u.Path), len(u.Query), len(u.Frag)) > 120 {
		return api.ErrMany
	}
	if !schemeForm.MatchString(u.Scheme) || !hostForm.MatchString(u.Host) || !pathForm.MatchString(u.Path) || !tailForm.MatchString(u.Query) || !tailForm.MatchString(u.Frag) {
		return api.ErrText
	}
	s := expectedText(u)
	if v, named := apart(s); v != u || named != (u.Scheme != "") {
		return api.ErrForm
	}
	if len(s) > 120 {
		return api.ErrMany
	}
	return api.OK
}

func expectedParse(s string) (api.URL, api.Errno) {
	if len(s) > 120 {
		return api.URL{}, api.ErrMany
	}
	u, named := apart(s)
	lower := func(s string) string {
		return regexp.MustCompile(`[A-Z]`).ReplaceAllStringFunc(s, strings.ToLower)
	}
	u.Scheme, u.Host = lower(u.Scheme), lower(u.Host)
	if named && u.Scheme == "" {
		return api.URL{}, api.ErrText
	}
	if e := expectedCheck(u); e != api.OK {
		return api.URL{}, e
	}
	return u, api.OK
}

var (
	oneDot    = regexp.MustCompile(`/\.(/|\z)`)
	firstDots = regexp.MustCompile(`\A/\.\.(/|\z)`)
	twoDots   = regexp.MustCompile(`/[^/]*/\.\.(/|\z)`)
)

// expectedDots takes the dots out one by one, till none is left.
func expectedDots(path string) string {
	for oneDot.MatchString(path) {
		path = oneDot.ReplaceAllString(path, "/")
	}
	for {
		if firstDots.MatchString(path) {
			path = firstDots.ReplaceAllString(path, "/")
		} else if at := twoDots.FindStringIndex(path); at != nil {
			path = path[:at[0]] + "/" + path[at[1]:]
		} else {
			return path
		}
	}
}

func expectedLead(base, u api.URL) (api.URL, api.Errno) {
	for _, e := range []api.Errno{expectedCheck(base), expectedCheck(u)} {
		if e != api.OK {
			return api.URL{}, e
		}
	}
	if base.Scheme == "" {
		return api.URL{}, api.ErrForm
	}
	to := u
	if u.Scheme == "" {
		to.Scheme = base.Scheme
	}
	if u.Scheme == "" && !u.HasHost {
		to.Host, to.HasHost = base.Host, base.HasHost
		if u.Path == "" {
			to.Path = base.Path
		} else if !strings.HasPrefix(u.Path, "/") {
			to.Path = regexp.MustCompile(`[^/]*\z`).ReplaceAllString(base.Path, "") + u.Path
			if base.HasHost && base.Path == "" {
				to.Path = "/" + u.Path
			}
		}
		if u.Path == "" && !u.HasQuery {
			to.Query, to.HasQuery = base.Query, base.HasQuery
		}
	}
	if to.HasHost || strings.HasPrefix(to.Path, "/") {
		to.Path = expectedDots(to.Path)
	}
	if !to.HasHost && strings.HasPrefix(to.Path, "//") {
		return api.URL{}, api.ErrForm
	}
	if e := expectedCheck(to); e != api.OK {
		return api.URL{}, e
	}
	return to, api.OK
}

// wantCheck holds Check and Print of u against the second reading, and Parse of the text against u.
func wantCheck(t *testing.T, u api.URL) api.Errno {
	t.Helper()
	e, want := Check(u), expectedCheck(u)
	if e != want {
		t.Fatalf("Check(%#v): %d; want %d", u, e, want)
	}
	text := ""
	if want == api.OK {
		text = expectedText(u)
	}
	s, e := Print(u)
	if s != text || e != want {
		t.Fatalf("Print(%#v): %q, %d; want %q, %d", u, s, e, text, want)
	}
	if want == api.OK {
		if v, e := Parse(s); v != u || e != api.OK {
			t.Fatalf("Parse of Print(%#v): %#v, %d", u, v, e)
		}
	}
	return want
}

// wantParse holds Parse of s against the second reading; what is parsed is printed as it was, but for the letters that are made small.
func wantParse(t *testing.T, s string) (api.URL, api.Errno) {
	t.Helper()
	u, e := Parse(s)
	want, wantErr := expectedParse(s)
	if u != want || e != wantErr {
		t.Fatalf("Parse(%q): %#v, %d; want %#v, %d", s, u, e, want, wantErr)
	}
	if e == api.OK {
		if text, e := Print(u); e != api.OK || !strings.EqualFold(text, s) {
			t.Fatalf("Print of Parse(%q): %q, %d", s, text, e)
		}
	}
	return u, e
}

// wantLead holds Lead against the second reading, and what is led to against what the chapter says of it.
func wantLead(t *testing.T, base, u api.URL) (api.URL, api.Errno) {
	t.Helper()
	to, e := Lead(base, u)
	want, wantErr := expectedLead(base, u)
	if to != want || e != wantErr {
		t.Fatalf("Lead(%#v, %#v): %#v, %d; want %#v, %d", base, u, to, e, want, wantErr)
	}
	if e != api.OK {
		return to, e
	}
	if to.Scheme == "" || Check(to) != api.OK {
		t.Fatalf("Lead(%#v, %#v): %#v", base, u, to)
	}
	if rooted := to.HasHost || strings.HasPrefix(to.Path, "/"); rooted {
		for _, s := range strings.Split(to.Path, "/") {
			if s == "." || s == ".." {
				t.Fatalf("Lead(%#v, %#v): dots in %q", base, u, to.Path)
			}
		}
	}
	for _, from := range []api.URL{base, to, {Scheme: "y"}, {Scheme: "y", HasHost: true, Host: "z", Path: "/y/z", HasQuery: true}} {
		if again, e := Lead(from, to); again != to || e != api.OK {
			t.Fatalf("Lead(%#v, %#v): %#v, %d", from, to, again, e)
		}
	}
	return to, e
}

// allTexts hands use each text of up to most of the pieces.
func allTexts(pieces []string, most int, use func(s string)) {
	use("")
	var more func(s string, left int)
	more = func(s string, left int) {
		if left == 0 {
			return
		}
		for _, x := range pieces {
			use(s + x)
			more(s+x, left-1)
		}
	}
	more("", most)
}

// parsed is the address of a text that is right.
func parsed(t *testing.T, s string) api.URL {
	t.Helper()
	u, e := Parse(s)
	if e != api.OK {
		t.Fatalf("Parse(%q): %d", s, e)
	}
	return u
}

func times(s string, n int) string { return strings.Repeat(s, n) }

func TestSecondReading(t *testing.T) {
	// What may be seen, and is no part of an address.
	for c := range 256 {
		s := string([]byte{byte(c)})
		seen := c >= 33 && c <= 126 && !strings.Contains("\"<>\\^`{|}", s)
		for form, not := range map[*regexp.Regexp]string{hostForm: "/?#ABCDEFGHIJKLMNOPQRSTUVWXYZ", pathForm: "?#", tailForm: "#"} {
			if form.MatchString(s) != (seen && !strings.Contains(not, s)) {
				t.Errorf("%s takes %q", form, s)
			}
		}
	}
}

func TestOrdinaryAddresses(t *testing.T) {
	for s, want := range map[string]api.URL{
		"":                       {},
		"a":                      {Path: "a"},
		"/":                      {Path: "/"},
		"a/b:c":                  {Path: "a/b:c"},
		"/a:b//c":                {Path: "/a:b//c"},
		"?":                      {HasQuery: true},
		"#":                      {HasFrag: true},
		"?#":                     {HasQuery: true, HasFrag: true},
		"#a?b":                   {HasFrag: true, Frag: "a?b"},
		"a?b:c/d?e":              {Path: "a", HasQuery: true, Query: "b:c/d?e"},
		"?//a:b#//c:d":           {HasQuery: true, Query: "//a:b", HasFrag: true, Frag: "//c:d"},
		"x:":                     {Scheme: "x"},
		"x::":                    {Scheme: "x", Path: ":"},
		"x:y:z/w":                {Scheme: "x", Path: "y:z/w"},
		"a1+-.:b":                {Scheme: "a1+-.", Path: "b"},
		"x:/":                    {Scheme: "x", Path: "/"},
		"//":                     {HasHost: true},
		"///":                    {HasHost: true, Path: "/"},
		"////a":                  {HasHost: true, Path: "//a"},
		"//a:b@c:8":              {HasHost: true, Host: "a:b@c:8"},
		"//[1::2]/":              {HasHost: true, Host: "[1::2]", Path: "/"},
		"//h?q":                  {HasHost: true, Host: "h", HasQuery: true, Query: "q"},
		"//h#f":                  {HasHost: true, Host: "h", HasFrag: true, Frag: "f"},
		"x://h?/q":               {Scheme: "x", HasHost: true, Host: "h", HasQuery: true, Query: "/q"},
		"file:///a":              {Scheme: "file", HasHost: true, Path: "/a"},
		"cid:A@b":                {Scheme: "cid", Path: "A@b"},
		"HtTp://WwW.H:80/A?B#C":  {Scheme: "http", HasHost: true, Host: "www.h:80", Path: "/A", HasQuery: true, Query: "B", HasFrag: true, Frag: "C"},
		"http://h/a/b;c=d?e=f#g": {Scheme: "http", HasHost: true, Host: "h", Path: "/a/b;c=d", HasQuery: true, Query: "e=f", HasFrag: true, Frag: "g"},
		"x:%00!$&'()*,;=_~[]@":   {Scheme: "x", Path: "%00!$&'()*,;=_~[]@"},
	} {
		if u, e := wantParse(t, s); u != want || e != api.OK {
			t.Errorf("Parse(%q): %#v, %d; want %#v", s, u, e, want)
		}
		wantCheck(t, want)
	}
}

func TestWrongTexts(t *testing.T) {
	for _, s := range []string{
		":", ":a", "://h", "1:", "+a:", "-:", ".:", "a_:", "a%:", "a b:", " x:", "é:", "a@b:c", "[a:b]",
		"a b", "\x00", "\x7f", "\x80", "\xff", "é", "a\n", "//h\t", "?\r", "# ",
		"\"", "<", ">", "\\", "^", "`", "{", "|", "}",
		"##", "#a#b", "?#a#", "x://h/a?b#c#d",
		// Their small letters would be k and i (with a dot).
		"\u212a:a", "a\u212a:b", "\u0130:a", "//\u212a/", "//\u0130", "x://a\u212a", "//\u017f",
	} {
		if u, e := wantParse(t, s); u != (api.URL{}) || e != api.ErrText {
			t.Errorf("Parse(%q): %#v, %d", s, u, e)
		}
	}
}

func TestWrongForms(t *testing.T) {
	for _, u := range []api.URL{
		{Host: "h"}, {Query: "q"}, {Frag: "f"},
		{Scheme: "x", Host: "h", Path: "/"}, {HasHost: true, Query: "q"}, {HasQuery: true, Frag: "f"},
		{HasHost: true, Path: "a"}, {HasHost: true, Path: ":"}, {Scheme: "x", HasHost: true, Host: "h", Path: "a/b"},
		{Path: "//"}, {Path: "//a"}, {Scheme: "x", Path: "//"}, {Scheme: "x", Path: "///a"},
		{Path: ":"}, {Path: "a:"}, {Path: ":/"}, {Path: "a:b/c"}, {Path: "1:b"},
	} {
		if e := wantCheck(t, u); e != api.ErrForm {
			t.Errorf("Check(%#v): %d", u, e)
		}
	}
	for _, u := range []api.URL{{Path: "/:"}, {Path: "/a:b"}, {Path: "a/:"}, {Path: "/a//"}, {Scheme: "x", Path: ":"}, {Scheme: "x", Path: "a//"}, {HasHost: true, Path: "//"}, {HasHost: true, Path: "/:"}} {
		if e := wantCheck(t, u); e != api.OK {
			t.Errorf("Check(%#v): %d", u, e)
		}
	}
}

func TestEachByteInEachText(t *testing.T) {
	for c := range 256 {
		for _, form := range []string{"*", "*a", "a*", "a*a"} {
			s := strings.Replace(form, "*", string([]byte{byte(c)}), 1)
			for _, u := range []api.URL{
				{Scheme: s}, {Scheme: s, HasHost: true, Path: "/a"},
				{HasHost: true, Host: s}, {Scheme: "x", HasHost: true, Host: s, Path: "/"}, {Host: s},
				{Path: s}, {Path: "/" + s}, {Scheme: "x", Path: s}, {HasHost: true, Path: s}, {HasHost: true, Path: "/" + s},
				{HasQuery: true, Query: s}, {Query: s},
				{HasFrag: true, Frag: s}, {Frag: s}, {HasQuery: true, HasFrag: true, Frag: s},
			} {
				wantCheck(t, u)
			}
			for _, ahead := range []string{"", "/", "x:", "//", "//h/", "?", "#", "x://h/?#"} {
				for _, behind := range []string{"", ":", "/", "/a:", "?a", "#a"} {
					wantParse(t, ahead+s+behind)
				}
			}
		}
	}
}

func TestCheckOfAllFields(t *testing.T) {
	for _, scheme := range []string{"", "x", "X", "x/", "1"} {
		for flags := range 8 {
			for _, host := range []string{"", "h", "H", "h/", "a:b"} {
				allTexts([]string{"/", ":", "a", "A", "?"}, 4, func(path string) {
					for _, query := range []string{"", "q", "?", "#"} {
						for _, frag := range []string{"", "f", "?", "#"} {
							wantCheck(t, api.URL{Scheme: scheme, HasHost: flags&1 != 0, Host: host, Path: path, HasQuery: flags&2 != 0, Query: query, HasFrag: flags&4 != 0, Frag: frag})
						}
					}
				})
			}
		}
	}
}

func TestParseOfAllSmallTexts(t *testing.T) {
	allTexts([]string{"a", "Z", "1", ":", "/", "//", "?", "#", "-", "|"}, 5, func(s string) { wantParse(t, s) })
}

func TestLimits(t *testing.T) {
	for n := 119; n <= 123; n++ {
		long := times("a", n)
		for _, u := range []api.URL{
			{Scheme: long}, {Scheme: long[1:]}, {HasHost: true, Host: long}, {HasHost: true, Host: long[2:]}, {Path: long},
			{HasQuery: true, Query: long}, {HasQuery: true, Query: long[1:]}, {HasFrag: true, Frag: long}, {HasFrag: true, Frag: long[1:]},
			{Scheme: long[60:], HasHost: true, Host: long[:57]},
			{Scheme: "x", HasHost: true, Host: "h", Path: "/" + long[9:], HasQuery: true, Query: "q", HasFrag: true, Frag: "f"},
		} {
			want := map[bool]api.Errno{true: api.ErrMany}[len(expectedText(u)) > 120]
			if e := wantCheck(t, u); e != want {
				t.Errorf("Check of %d bytes: %d", len(expectedText(u)), e)
			}
		}
		for _, s := range []string{"", "x:", "x://", "/", "?", "#", "X://A/b?c#d", "://", " ", "a b", "#a#"} {
			_, e := wantParse(t, s+long[len(s):])
			if n > 120 && e != api.ErrMany || n <= 120 && e == api.ErrMany {
				t.Errorf("Parse of %d bytes: %d", n, e)
			}
		}
	}
	wantParse(t, times("\xff", 100000))
	wantCheck(t, api.URL{Query: times(" ", 100000)})
}

func TestOrderOfCheck(t *testing.T) {
	long := times("a", 121)
	for _, u := range []api.URL{
		{Scheme: long, Host: " "}, {Scheme: "X", Host: long}, {Scheme: "1", Path: long}, {Path: "//", Query: long}, {Path: " ", Frag: long}, {Scheme: times("X", 121)}, {Frag: times("#", 121)},
	} {
		if e := wantCheck(t, u); e != api.ErrMany {
			t.Errorf("Check(%#v): %d; too long is told first", u, e)
		}
	}
	for _, u := range []api.URL{
		{Host: "h", Frag: "#"}, {Path: "//", HasQuery: true, Query: "\x00"}, {Path: "a:b c"}, {Scheme: "X", HasHost: true, Path: "a"}, {Host: "H"}, {Path: long[1:], HasFrag: true, Frag: " "},
	} {
		if e := wantCheck(t, u); e != api.ErrText {
			t.Errorf("Check(%#v): %d; what isn't written so is told ahead of the form", u, e)
		}
	}
	for _, u := range []api.URL{
		{Path: long[1:], Host: "h"}, {Path: "//" + long[3:], HasFrag: true}, {HasHost: true, Host: long[1:], Path: "a"}, {Path: "a:" + long[3:], HasQuery: true, Query: long[1:]}, {Query: long[1:], HasFrag: true, Frag: long[1:]},
	} {
		if e := wantCheck(t, u); e != api.ErrForm {
			t.Errorf("Check(%#v): %d; the form is told ahead of the length of the text", u, e)
		}
	}
}

func wantLeadText(t *testing.T, base, s, want string) {
	t.Helper()
	to, e := wantLead(t, parsed(t, base), parsed(t, s))
	if text, _ := Print(to); text != want || e != api.OK {
		t.Errorf("from %q, %q leads to %q, %d; want %q", base, s, text, e, want)
	}
}

// The examples of RFC 3986, 5.4.
func TestLeadOfKnownExamples(t *testing.T) {
	for s, want := range map[string]string{
		"g:h": "g:h", "g": "http://a/b/c/g", "./g": "http://a/b/c/g", "g/": "http://a/b/c/g/", "/g": "http://a/g", "//g": "http://g",
		"?y": "http://a/b/c/d;p?y", "g?y": "http://a/b/c/g?y", "#s": "http://a/b/c/d;p?q#s", "g#s": "http://a/b/c/g#s", "g?y#s": "http://a/b/c/g?y#s",
		";x": "http://a/b/c/;x", "g;x": "http://a/b/c/g;x", "g;x?y#s": "http://a/b/c/g;x?y#s", "": "http://a/b/c/d;p?q",
		".": "http://a/b/c/", "./": "http://a/b/c/", "..": "http://a/b/", "../": "http://a/b/", "../g": "http://a/b/g", "../..": "http://a/", "../../": "http://a/", "../../g": "http://a/g",
		"../../../g": "http://a/g", "../../../../g": "http://a/g", "/./g": "http://a/g", "/../g": "http://a/g",
		"g.": "http://a/b/c/g.", ".g": "http://a/b/c/.g", "g..": "http://a/b/c/g..", "..g": "http://a/b/c/..g",
		"./../g": "http://a/b/g", "./g/.": "http://a/b/c/g/", "g/./h": "http://a/b/c/g/h", "g/../h": "http://a/b/c/h", "g;x=1/./y": "http://a/b/c/g;x=1/y", "g;x=1/../y": "http://a/b/c/y",
		"g?y/./x": "http://a/b/c/g?y/./x", "g?y/../x": "http://a/b/c/g?y/../x", "g#s/./x": "http://a/b/c/g#s/./x", "g#s/../x": "http://a/b/c/g#s/../x", "http:g": "http:g",
	} {
		wantLeadText(t, "http://a/b/c/d;p?q", s, want)
	}
}

func TestLead(t *testing.T) {
	for _, c := range [][3]string{
		{"http://h/a/b?c", "../d#e", "http://h/d#e"},
		{"http://h/p", "q", "http://h/q"},
		// What base has behind its Path stays away, but where all is left to it.
		{"x://h/a?b#c", "", "x://h/a?b"},
		{"x://h/a?b#c", "#", "x://h/a?b#"},
		{"x://h/a?b#c", "?", "x://h/a?"},
		{"x://h/a?#c", "", "x://h/a?"},
		{"x://h/a?b#c", "a", "x://h/a"},
		{"x://h/a?b#c", "/", "x://h/"},
		{"x://h/a?b#c", "//", "x://"},
		{"x://h/a?b#c", "//?", "x://?"},
		{"x://h/a?b#c", "y:", "y:"},
		{"x://h/a?b#c", "x:", "x:"},
		// A base without a Path.
		{"x://h", "", "x://h"},
		{"x://h", "?q", "x://h?q"},
		{"x://h?q", "#f", "x://h?q#f"},
		{"x://h", "a", "x://h/a"},
		{"x://h", "a/b/", "x://h/a/b/"},
		{"x://h", ".", "x://h/"},
		{"x://h", "..", "x://h/"},
		{"x://", "a", "x:///a"},
		{"x:", "", "x:"},
		{"x:", "a", "x:a"},
		{"x:", "..", "x:.."},
		{"x:", "/a/..", "x:/"},
		{"x:", "//h", "x://h"},
		// Without a Host, and without a `/` ahead, dots stay.
		{"x:a", "b", "x:b"},
		{"x:a/b", "c", "x:a/c"},
		{"x:a/b", "", "x:a/b"},
		{"x:a/b?q", "", "x:a/b?q"},
		{"x:a/b", "../c", "x:a/../c"},
		{"x:a/../b", "./c/..", "x:a/.././c/.."},
		{"x:a/b", "/c/../d", "x:/d"},
		{"x:/a/b", "../../c", "x:/c"},
		{"x:/a/../b", "", "x:/b"},
		{"x:a", "y:b/../c", "y:b/../c"},
		{"x:a", "y:/b/../c", "y:/c"},
		{"x:a", "y:..", "y:.."},
		// With a Host, dots go, whoever says them.
		{"x://h/a/./b/../c", "", "x://h/a/c"},
		{"x://h/a/./b/../c", "?q", "x://h/a/c?q"},
		{"x://h/a/..", "b", "x://h/a/b"},
		{"x://h/a/../b", "c", "x://h/c"},
		{"x:a", "y://h/../b/./c/..", "y://h/b/"},
		{"x:a", "//h/../b/.", "x://h/b/"},
		{"x:a", "//h/..", "x://h/"},
		{"x:a", "//h/.", "x://h/"},
		{"x:a", "//h", "x://h"},
		{"x:a", "//..", "x://.."},
		// A part that is empty is one, too.
		{"x://h/a//", "../b", "x://h/a/b"},
		{"x://h/a//", "..", "x://h/a/"},
		{"x://h/a//", "../..", "x://h/"},
		{"x://h//", "..", "x://h/"},
		{"x://h//", "../b", "x://h/b"},
		{"x://h//a", "..", "x://h/"},
		{"x://h///a", "../b", "x://h//b"},
		{"x://h/a", "..//b", "x://h//b"},
		{"x://h/a", ".//b", "x://h//b"},
		{"x://h/a", "/.//..//b", "x://h//b"},
		{"x://h/a", "b//./c", "x://h/b//c"},
		{"x:/a", "/b//../c", "x:/b/c"},
		// These are no dots.
		{"x://h/a", ".../..b/.c/d./...", "x://h/.../..b/.c/d./..."},
		{"x://h/a", "%2e%2E/b", "x://h/%2e%2E/b"},
		{"x://h/a", "?../b", "x://h/a?../b"},
		// A `:` that isn't ahead of the first `/`.
		{"x:", "./a:b", "x:./a:b"},
		{"x://h", "./a:b", "x://h/a:b"},
		{"x:/", "./a:b", "x:/a:b"},
	} {
		wantLeadText(t, c[0], c[1], c[2])
	}
}

func TestLeadThatCannotBe(t *testing.T) {
	for _, c := range [][2]string{
		{"x:/a", "..//b"}, {"x:/a", ".//b"}, {"x:/a/b", "..//"}, {"x:a", "/.//b"}, {"x:a", "/..//b"}, {"x:", "/a/..//b"}, {"y:", "x:/.//"}, {"x:/.//a", ""}, {"x:/.//a", "b"}, {"x:/a", "/b//../..//"},
		// There is no Scheme to lead from.
		{"", "x:a"}, {"a", ""}, {"//h/a", "x://h/b"}, {"//h/a", "b"}, {"/", "//h"}, {"?q", "#f"},
	} {
		if to, e := wantLead(t, parsed(t, c[0]), parsed(t, c[1])); to != (api.URL{}) || e != api.ErrForm {
			t.Errorf("Lead from %q, %q: %#v, %d", c[0], c[1], to, e)
		}
	}
}

func TestOrderOfLead(t *testing.T) {
	wrong := map[api.Errno]api.URL{api.ErrText: {Path: " "}, api.ErrForm: {Path: "//"}, api.ErrMany: {Path: times("a", 121)}}
	for want, u := range wrong {
		right := api.URL{Scheme: "x"}
		for _, other := range []api.URL{right, {}, wrong[api.ErrText], wrong[api.ErrForm], wrong[api.ErrMany]} {
			if to, e := wantLead(t, u, other); to != (api.URL{}) || e != want {
				t.Errorf("Lead from %#v: %#v, %d; base's error is told first", u, to, e)
			}
		}
		for _, base := range []api.URL{right, {}} {
			if to, e := wantLead(t, base, u); to != (api.URL{}) || e != want {
				t.Errorf("Lead of %#v: %#v, %d; want its error", u, to, e)
			}
		}
	}
}

func TestLimitsOfLead(t *testing.T) {
	for n := range 130 {
		for _, c := range []struct{ base, u api.URL }{
			{api.URL{Scheme: "x"}, api.URL{Path: times("a", n)}},
			{api.URL{Scheme: "x", HasHost: true, Host: "h"}, api.URL{Path: times("a", n)}},
			{api.URL{Scheme: "x", HasHost: true, Host: times("h", 60)}, api.URL{Path: times("a", n)}},
			{api.URL{Scheme: times("s", 100)}, api.URL{HasHost: true, Host: times("h", n)}},
			{api.URL{Scheme: "x", Path: times("a", 60) + "/" + times("b", 50)}, api.URL{Path: times("c", n)}},
			{api.URL{Scheme: "x", Path: times("a", 60) + "/", HasQuery: true, Query: times("q", 50)}, api.URL{HasFrag: true, Frag: times("c", n)}},
			// Too long, but for the dots that go.
			{api.URL{Scheme: "x", HasHost: true, Path: "/" + times("a/", 50)}, api.URL{Path: times("../", n/3)}},
			{api.URL{Scheme: "x", Path: "/" + times("a", 100) + "/"}, api.URL{Path: "../" + times("b", n)}},
			// What would be a Host is told, be it ever so long.
			{api.URL{Scheme: "x", Path: "/" + times("a", 100)}, api.URL{Path: "..//" + times("b", n)}},
			{api.URL{Scheme: times("s", 100), Path: "/"}, api.URL{Path: ".//" + times("b", n)}},
			{api.URL{Scheme: "x", Path: "/.//" + times("a", 100) + "/"}, api.URL{Path: times("b", n)}},
		} {
			wantLead(t, c.base, c.u)
		}
	}
	base := api.URL{Scheme: "x", Path: "/.//" + times("a", 100) + "/"}
	if to, e := Lead(base, api.URL{Path: times("b", 100)}); to != (api.URL{}) || e != api.ErrForm {
		t.Errorf("too long, and like a Host: %#v, %d", to, e)
	}
	base.Path = "/" + times("a", 100) + "/"
	if to, e := Lead(base, api.URL{Path: times("b", 16)}); len(to.Path) != 118 || e != api.OK {
		t.Errorf("just long enough: %#v, %d", to, e)
	}
	if to, e := Lead(base, api.URL{Path: times("b", 17)}); to != (api.URL{}) || e != api.ErrMany {
		t.Errorf("too long: %#v, %d", to, e)
	}
}

func TestLeadOfAllSmallPaths(t *testing.T) {
	var bases []api.URL
	for _, s := range []string{"x:", "x:a", "x:a/b", "x:/", "x:/a/b", "x:/a//b?q", "x://h", "x://h?q#f", "x://h/", "x://h/a", "x://h//", "x://h/a/b/?q", "x://h/./a/../b", "x:../a", "x:/../a", "x:?q", "x:a#f", "//h/a", "a"} {
		bases = append(bases, parsed(t, s))
	}
	pieces := []string{"a", ".", "/", "..", "/../"}
	for _, ahead := range []string{"", "/", "//h/", "y:", "y:/", "y://h/"} {
		allTexts(pieces, 5, func(s string) {
			u, e := Parse(ahead + s)
			if e != api.OK {
				t.Fatalf("Parse(%q): %d", ahead+s, e)
			}
			// Without a Scheme or Host, a text is one that base has to say more of.
			if u.Scheme == "" && !u.HasHost {
				for _, base := range bases {
					wantLead(t, base, u)
				}
				return
			}
			wantLead(t, bases[1], u)
			wantLead(t, bases[9], u)
		})
	}
	allTexts([]string{"a", "/", "..", "?", "#", ":"}, 5, func(s string) {
		if u, e := Parse(s); e == api.OK {
			for _, base := range bases {
				wantLead(t, base, u)
			}
		}
	})
}

// Each address, be it wrong, too, from each.
func TestLeadOfAllFields(t *testing.T) {
	var l []api.URL
	for _, scheme := range []string{"", "x", "X"} {
		for flags := range 8 {
			for _, host := range []string{"", "h"} {
				for _, path := range []string{"", "/", "a", "//", "/a/b", "..", "a:b"} {
					l = append(l, api.URL{Scheme: scheme, HasHost: flags&1 != 0, Host: host, Path: path, HasQuery: flags&2 != 0, Query: map[bool]string{true: "q"}[flags&2 != 0], HasFrag: flags&4 != 0, Frag: map[bool]string{true: "f"}[flags&4 != 0]})
				}
			}
		}
	}
	for _, base := range l {
		for _, u := range l {
			wantLead(t, base, u)
		}
	}
}

// Go's own library leads to the same place from a base with a Host and a Path.
func TestLeadAsTheLibrary(t *testing.T) {
	for _, s := range []string{"x://h/", "x://h/a", "x://h/a/b?q", "x://h/a/b/c/d"} {
		base, theirs := parsed(t, s), must(t)(library.Parse(s))
		allTexts([]string{"a", "/", ".", "..", "?q", "#f"}, 5, func(s string) {
			u, e := Parse(s)
			v, err := library.Parse(s)
			// To the library, an empty Host is none, and some empty parts of a Path are none, too.
			if e != api.OK || err != nil || strings.Contains(s, "//") {
				return
			}
			to, e := Lead(base, u)
			text, _ := Print(to)
			if want := theirs.ResolveReference(v).String(); e != api.OK || text != want {
				t.Errorf("from %s, %q leads to %q, %d; the library says %q", theirs, s, text, e, want)
			}
		})
	}
}

func must(t *testing.T) func(*library.URL, error) *library.URL {
	return func(u *library.URL, err error) *library.URL {
		t.Helper()
		if err != nil {
			t.Fatal(err)
		}
		return u
	}
}

func FuzzParse(f *testing.F) {
	for _, s := range []string{"HTTP://H:8/a/b?c#d", "x:", "//", "a/b:c", "?#", ":"} {
		f.Add(s)
	}
	f.Fuzz(func(t *testing.T, s string) { wantParse(t, s) })
}

func FuzzCheck(f *testing.F) {
	f.Add("x", true, "h", "/a", true, "q", true, "f")
	f.Add("", false, "", "a:b", false, "", false, "")
	f.Fuzz(func(t *testing.T, scheme string, hasHost bool, host, path string, hasQuery bool, query string, hasFrag bool, frag string) {
		wantCheck(t, api.URL{Scheme: scheme, HasHost: hasHost, Host: host, Path: path, HasQuery: hasQuery, Query: query, HasFrag: hasFrag, Frag: frag})
	})
}

func FuzzLead(f *testing.F) {
	f.Add("http://h/a/b?c", "../d#e")
	f.Add("x:/a", "..//b")
	f.Add("x:a", "")
	f.Fuzz(func(t *testing.T, from, s string) {
		base, e := Parse(from)
		u, e2 := Parse(s)
		if e == api.OK && e2 == api.OK {
			wantLead(t, base, u)
		}
	})
}
