package rewrite

import (
	"fmt"
	"math"
	"regexp"
	"slices"
	"strings"
	"testing"

	"scrapbook/api"
	"scrapbook/bundle"
	"scrapbook/link"
	"scrapbook/part"
)

// A second reading of the chapter, by patterns, and by going through the links from the last one on: what the package answers is held against it. What the chapters ahead promise (packages part, link, bundle) is taken from these packages; their own tests hold them to it.

var nameForm = regexp.MustCompile(`\A[a-z][a-z0-9.]{0,29}\z`)

func expectedCheck(l []api.Name, parts int) api.Errno {
	for i, n := range l {
		switch {
		case n.Part < 0 || n.Part >= parts:
			return api.ErrWho
		case !nameForm.MatchString(n.Name):
			return api.ErrText
		case slices.ContainsFunc(l[:i], func(m api.Name) bool { return m.Name == n.Name || m.Part >= n.Part }):
			return api.ErrTwice
		}
	}
	return api.OK
}

// expectedBodies tells of each part of p, depth first, its Body with the names in it.
func expectedBodies(p api.Part, names []api.Name) ([]string, api.Errno) {
	all, e := part.All(p)
	if e != api.OK {
		return nil, e
	}
	if e := expectedCheck(names, len(all)); e != api.OK {
		return nil, e
	}
	goals, e := bundle.Goals(p)
	if e != api.OK {
		return nil, e
	}
	var bodies []string
	for _, x := range all {
		bodies = append(bodies, string(x.Body))
	}
	// What stands behind a link is done already, so that the link still stands where it was found.
	for _, g := range slices.Backward(goals) {
		for _, n := range names {
			if n.Part == g.Find {
				b := bodies[g.Part]
				bodies[g.Part] = b[:g.L.From] + n.Name + b[g.L.To:]
			}
		}
	}
	if slices.ContainsFunc(bodies, func(s string) bool { return len(s) > 4000 }) {
		return nil, api.ErrMany
	}
	return bodies, api.OK
}

// withBodies is p with the first ones of these bodies, depth first, and those that are left.
func withBodies(p api.Part, bodies []string) (api.Part, []string) {
	q := p
	q.Body, q.Parts = []byte(bodies[0]), nil
	bodies = bodies[1:]
	for _, x := range p.Parts {
		x, bodies = withBodies(x, bodies)
		q.Parts = append(q.Parts, x)
	}
	return q, bodies
}

func wantCheck(t *testing.T, l []api.Name, parts int) api.Errno {
	t.Helper()
	e := CheckNames(l, parts)
	if want := expectedCheck(l, parts); e != want {
		t.Fatalf("CheckNames(%q, %d): %d; want %d", fmt.Sprint(l), parts, e, want)
	}
	return e
}

// wantNames holds Names against the second reading, and against what P9.3 says of it.
func wantNames(t *testing.T, p api.Part, names []api.Name) (api.Part, api.Errno) {
	t.Helper()
	q, e := Names(p, names)
	bodies, want := expectedBodies(p, names)
	if e != want {
		t.Fatalf("Names(%s, %v): error %d; want %d", told(p), names, e, want)
	}
	if e != api.OK {
		if !part.Same(q, api.Part{}) {
			t.Fatalf("Names(%s, %v): %s with an error", told(p), names, told(q))
		}
		return q, e
	}
	if right, _ := withBodies(p, bodies); !part.Same(q, right) {
		t.Fatalf("Names(%s, %v): %s; want %s", told(p), names, told(q), told(right))
	}
	wantOnlyNamed(t, p, q, names)
	return q, e
}

// wantOnlyNamed: do the links of p that lead to parts with names say these in q, and is all else of it as it was?
func wantOnlyNamed(t *testing.T, p, q api.Part, names []api.Name) {
	t.Helper()
	called := map[int]string{}
	for _, n := range names {
		called[n.Part] = n.Name
	}
	goals, _ := bundle.Goals(p)
	old, _ := part.All(p)
	now, e := part.All(q)
	if e != api.OK || len(now) != len(old) {
		t.Fatalf("%s became %s", told(p), told(q))
	}
	for i := range old {
		if old[i].Type != "text/html" {
			continue
		}
		was, _ := link.Find(old[i].Body)
		is, e := link.Find(now[i].Body)
		if e != api.OK || len(is) != len(was) || outside(old[i].Body, was) != outside(now[i].Body, is) {
			t.Fatalf("part %d of %s became %s", i, told(p), told(q))
		}
		for k, l := range is {
			want := was[k].Text
			if s, ok := called[goals[0].Find]; ok {
				want = s
			}
			goals = goals[1:]
			if l.Text != want {
				t.Fatalf("link %d of part %d of %s says %q; want %q", k, i, told(p), l.Text, want)
			}
		}
	}
}

// outside is what stands around the links of a page.
func outside(b []byte, links []api.Link) string {
	for _, l := range slices.Backward(links) {
		b = slices.Concat(b[:l.From], []byte("\x00"), b[l.To:])
	}
	return string(b)
}

// wantPage: is this the Body of the part of that number?
func wantPage(t *testing.T, p api.Part, names []api.Name, number int, want string) {
	t.Helper()
	q, e := wantNames(t, p, names)
	all, _ := part.All(q)
	if e != api.OK || len(all) <= number || string(all[number].Body) != want {
		t.Errorf("Names(%s, %v): %d, %s; want %q in part %d", told(p), names, e, told(q), want, number)
	}
}

func wantError(t *testing.T, what string, p api.Part, names []api.Name, want api.Errno) {
	t.Helper()
	if _, e := wantNames(t, p, names); e != want {
		t.Errorf("Names of %s: %d; want %d", what, e, want)
	}
}

// told is p as text, not longer than a reader bears.
func told(p api.Part) string {
	inside := ""
	for _, q := range p.Parts {
		inside += " " + told(q)
	}
	return fmt.Sprintf("{%.40q at %.130q, ID %.130q: %.300q%s}", p.Type, p.Location, p.ID, p.Body, inside)
}

func many(location string, l ...api.Part) api.Part {
	return api.Part{Type: "multipart/x", Location: location, Parts: l}
}

func page(location, body string) api.Part {
	return api.Part{Type: "text/html", Location: location, Body: []byte(body)}
}

func picture(location, id string) api.Part {
	return api.Part{Type: "image/png", Location: location, ID: id, How: api.Base64, Body: []byte("<a href='cid:x'>")}
}

func times(s string, n int) string { return strings.Repeat(s, n) }

func name(k int, s string) api.Name { return api.Name{Part: k, Name: s} }

func TestCheckNames(t *testing.T) {
	for _, c := range []struct {
		l     []api.Name
		parts int
		want  api.Errno
	}{
		{nil, 0, api.OK},
		{[]api.Name{}, -1, api.OK},
		{[]api.Name{name(0, "a"), name(2, "b1.")}, 3, api.OK},
		{[]api.Name{name(0, "c"), name(1, "b"), name(2, "a")}, 3, api.OK},
		{[]api.Name{name(math.MaxInt-1, "a")}, math.MaxInt, api.OK},
		// No such part.
		{[]api.Name{name(3, "a")}, 3, api.ErrWho},
		{[]api.Name{name(-1, "a")}, 3, api.ErrWho},
		{[]api.Name{name(0, "a")}, 0, api.ErrWho},
		{[]api.Name{name(0, "a")}, -1, api.ErrWho},
		{[]api.Name{name(-1, "a")}, 0, api.ErrWho},
		{[]api.Name{name(-2, "a")}, -1, api.ErrWho},
		{[]api.Name{name(math.MinInt, "a")}, math.MaxInt, api.ErrWho},
		{[]api.Name{name(math.MaxInt, "a")}, math.MaxInt, api.ErrWho},
		{[]api.Name{name(0, "a"), name(1, "b"), name(2, "c")}, 2, api.ErrWho},
		// The same Name, or a Part that isn't behind those ahead.
		{[]api.Name{name(0, "a"), name(1, "a")}, 3, api.ErrTwice},
		{[]api.Name{name(0, "a"), name(1, "b"), name(2, "a")}, 3, api.ErrTwice},
		{[]api.Name{name(1, "a"), name(0, "b")}, 3, api.ErrTwice},
		{[]api.Name{name(1, "a"), name(1, "b")}, 3, api.ErrTwice},
		{[]api.Name{name(0, "a"), name(0, "a")}, 3, api.ErrTwice},
		{[]api.Name{name(0, "a"), name(2, "b"), name(1, "c")}, 3, api.ErrTwice},
		{[]api.Name{name(1, "a"), name(2, "b"), name(0, "c")}, 3, api.ErrTwice},
		// Of one name, in this order.
		{[]api.Name{name(3, "A")}, 3, api.ErrWho},
		{[]api.Name{name(0, "a"), name(3, "a")}, 3, api.ErrWho},
		{[]api.Name{name(0, "a"), name(-1, "a")}, 3, api.ErrWho},
		{[]api.Name{name(1, "a"), name(0, "A")}, 3, api.ErrText},
		{[]api.Name{name(1, "a"), name(1, "")}, 3, api.ErrText},
		// Of several, that of the first one.
		{[]api.Name{name(0, "A"), name(3, "a")}, 3, api.ErrText},
		{[]api.Name{name(0, "a"), name(0, "b"), name(3, "c")}, 3, api.ErrTwice},
		{[]api.Name{name(0, "a"), name(1, "a"), name(2, "A")}, 3, api.ErrTwice},
		{[]api.Name{name(0, "a"), name(3, "b"), name(1, "B"), name(1, "a")}, 3, api.ErrWho},
	} {
		if e := wantCheck(t, c.l, c.parts); e != c.want {
			t.Errorf("CheckNames(%v, %d): %d; want %d", c.l, c.parts, e, c.want)
		}
	}
}

func TestTextsOfNames(t *testing.T) {
	for s, want := range map[string]api.Errno{
		"a": api.OK, "z": api.OK, "a0": api.OK, "z9": api.OK, "a.": api.OK, "a..": api.OK, "index.html": api.OK, times("a", 30): api.OK, "a" + times("9", 28) + ".": api.OK,
		"": api.ErrText, times("a", 31): api.ErrText, times("a", 5000): api.ErrText, "0": api.ErrText, "1a": api.ErrText, ".": api.ErrText, ".a": api.ErrText, "A": api.ErrText, "aA": api.ErrText, "a b": api.ErrText, " a": api.ErrText, "a ": api.ErrText, "a-b": api.ErrText, "a_b": api.ErrText, "a/b": api.ErrText, "a#": api.ErrText, "a\n": api.ErrText, "a\x00": api.ErrText, "é": api.ErrText, "aé": api.ErrText, "a\xff": api.ErrText, "a٣": api.ErrText, "aſ": api.ErrText, "aａ": api.ErrText,
	} {
		if e := wantCheck(t, []api.Name{name(0, s)}, 1); e != want {
			t.Errorf("the name %q: %d; want %d", s, e, want)
		}
	}
}

func TestEachByteOfNames(t *testing.T) {
	for c := range 256 {
		b := string([]byte{byte(c)})
		for _, s := range []string{b, "a" + b, b + "a", "a" + b + "a", "a" + times("b", 28) + b, "a" + times("b", 29) + b} {
			wantCheck(t, []api.Name{name(0, s)}, 1)
		}
	}
}

// Each list of up to three of these names.
func TestAllListsOfNames(t *testing.T) {
	var some []api.Name
	for _, k := range []int{-1, 0, 1, 2, 3} {
		for _, s := range []string{"a", "b", "B", ""} {
			some = append(some, name(k, s))
		}
	}
	for _, x := range some {
		for _, y := range some {
			wantCheck(t, []api.Name{x, y}, 3)
			for _, z := range some {
				wantCheck(t, []api.Name{x, y, z}, 3)
			}
		}
	}
}

func TestManyNames(t *testing.T) {
	var l []api.Name
	for i := range 100000 {
		l = append(l, name(i, fmt.Sprintf("a%d", i)))
	}
	if e := CheckNames(l, len(l)); e != api.OK {
		t.Errorf("many names: %d", e)
	}
	if e := CheckNames(l, len(l)-1); e != api.ErrWho {
		t.Errorf("many names, and a part fewer: %d", e)
	}
	l[len(l)-1].Name = "a0"
	if e := CheckNames(l, len(l)); e != api.ErrTwice {
		t.Errorf("many names, and the last one is the first one: %d", e)
	}
}

func TestNames(t *testing.T) {
	p := many("http://h/a/b", page("", "<a href='c'><img SRC=cid:x><a href=#d>"), picture("c", "x"))
	wantPage(t, p, []api.Name{name(2, "p.png")}, 1, "<a href='p.png'><img SRC=p.png><a href=#d>")
	wantPage(t, p, []api.Name{name(0, "all"), name(1, "page"), name(2, "p")}, 1, "<a href='p'><img SRC=p><a href=#d>")
	// Without names, or where nothing leads to what has one, all stays as it is.
	for _, l := range [][]api.Name{nil, {}, {name(1, "page")}, {name(0, "all")}, {name(0, "all"), name(1, "page")}} {
		if q, e := wantNames(t, p, l); e != api.OK || !part.Same(p, q) {
			t.Errorf("Names(%s, %v): %d, %s", told(p), l, e, told(q))
		}
	}
	// A page may lead to itself, and be all of the bundle.
	one := page("x://h/a", "<a href=#f><a href=''><a href=a><a href=b><img src='a?'>")
	wantPage(t, one, []api.Name{name(0, "a")}, 0, "<a href=a><a href='a'><a href=a><a href=b><img src='a?'>")
	wantPage(t, page("", "<a href=''>"), []api.Name{name(0, "a")}, 0, "<a href=''>")
	wantPage(t, page("", ""), []api.Name{name(0, "a")}, 0, "")
	// What has Parts may have a name, but no link leads to it.
	inner := many("i", picture("j", ""))
	inner.ID = "i"
	wantPage(t, many("x://h/w", page("p", "<a href=w><a href=i><a href=cid:i><a href=j>"), inner), []api.Name{name(0, "w"), name(2, "i"), name(3, "n")}, 1, "<a href=w><a href=i><a href=cid:i><a href=n>")
	// Of parts at one place, the first one has the links, be there a name for another one alone.
	two := many("x://h/", page("", "<a href=a><a href=cid:x>"), picture("a", "x"), picture("a", "x"))
	wantPage(t, two, []api.Name{name(2, "first"), name(3, "second")}, 1, "<a href=first><a href=first>")
	wantPage(t, two, []api.Name{name(3, "second")}, 1, "<a href=a><a href=cid:x>")
}

func TestLinksAsTheyStand(t *testing.T) {
	around := func(body string) api.Part {
		return many("x://h/", page("p", body), picture("c?d&e", "x"), picture("f", ""))
	}
	names := []api.Name{name(1, "page.html"), name(2, "n")}
	for body, want := range map[string]string{
		// All of the value goes, what stands behind its `#`, too.
		"<a href=\"c?d&amp;e#f\">":                "<a href=\"n\">",
		"<a href='c?d&e'>":                        "<a href='n'>",
		"<a href = cid:x#g >":                     "<a href = n >",
		"<A HREF=CID:x SRC=f>":                    "<A HREF=n SRC=f>",
		"<a src=/c?d&e href=x://h/a/../p#q>t</a>": "<a src=n href=page.html>t</a>",
		// An empty value leads to the page itself.
		"<a href=>":        "<a href=page.html>",
		"<a href=\"\"x>":   "<a href=\"page.html\"x>",
		"<a href='' src=>": "<a href='page.html' src=page.html>",
		// What is no link stays.
		"<a href>":                        "<a href>",
		"<a href href=p>":                 "<a href href=p>",
		"<a href=p href=p>":               "<a href=page.html href=p>",
		"<a name=p alt='cid:x'>p</a>":     "<a name=p alt='cid:x'>p</a>",
		"</a href=p>":                     "</a href=p>",
		"<!--<a href=p>--><a href=p>":     "<!--<a href=p>--><a href=page.html>",
		"<a href=p":                       "<a href=p",
		"<a href='p>":                     "<a href='p>",
		"cid:x p href=p":                  "cid:x p href=p",
		"\xff\x00<a href=p>\xfe":          "\xff\x00<a href=page.html>\xfe",
		"<a href=f><a href=y:><a href=:>": "<a href=f><a href=y:><a href=:>",
	} {
		wantPage(t, around(body), names, 1, want)
	}
}

func TestAllPages(t *testing.T) {
	p := many("http://h/",
		page("a/b", "<a href=c><a href=../d>"),
		many("", picture("a/c", ""), page("d", "<img src=a/c><a href=a/b#f><a href=e>")),
		api.Part{Type: "text/plain", Location: "e", Body: []byte("<a href=e>")},
		api.Part{Type: "text/html", Charset: "utf-8", ID: "last", How: api.Quoted, Body: []byte("<a href='cid:last'><a href='d'>")})
	q, e := wantNames(t, p, []api.Name{name(1, "one"), name(3, "two"), name(4, "three"), name(5, "four"), name(6, "five")})
	want := many("http://h/",
		page("a/b", "<a href=two><a href=three>"),
		many("", picture("a/c", ""), page("d", "<img src=two><a href=one><a href=four>")),
		api.Part{Type: "text/plain", Location: "e", Body: []byte("<a href=e>")},
		api.Part{Type: "text/html", Charset: "utf-8", ID: "last", How: api.Quoted, Body: []byte("<a href='five'><a href='three'>")})
	if e != api.OK || !part.Same(q, want) {
		t.Errorf("Names(%s): %d, %s; want %s", told(p), e, told(q), told(want))
	}
	// The links lead from where the pages stood, be there a part whose name another one's Location was.
	swap := many("http://h/", page("a", "<a href=a><a href=b>"), page("b", "<a href=a><a href=b>"))
	wantPage(t, swap, []api.Name{name(1, "b"), name(2, "a")}, 1, "<a href=b><a href=a>")
	wantPage(t, swap, []api.Name{name(1, "b"), name(2, "a")}, 2, "<a href=b><a href=a>")
}

func TestAsManyPartsAndLinksAsThereMayBe(t *testing.T) {
	var l []api.Part
	var names []api.Name
	for i := range 11 {
		l = append(l, page(fmt.Sprintf("../%d", i+1), times("<a href=11 src='cid:11'>", 30)))
		names = append(names, name(i+1, fmt.Sprintf("n%d", i+1)))
	}
	l[10].ID = "11"
	for i := range 11 {
		wantPage(t, many("x://h/0/", l...), names, i+1, times("<a href=n11 src='n11'>", 30))
	}
	wantError(t, "a part too many", many("x://h/0/", append(l, page("", ""))...), names, api.ErrMany)
	wantError(t, "a name too many", many("x://h/0/", l...), append(names, name(12, "n12")), api.ErrWho)
}

func TestErrors(t *testing.T) {
	links := times("<a href=a>", 60)
	right, wrong := []api.Name{name(0, "n")}, []api.Name{name(0, "N")}
	far, twice := []api.Name{name(1, "n")}, []api.Name{name(0, "n"), name(0, "m")}
	wantError(t, "nothing", api.Part{}, nil, api.ErrText)
	wantError(t, "no such How", api.Part{Type: "a/b", How: 3}, right, api.ErrRange)
	wantError(t, "no Parts", many(""), right, api.ErrForm)
	wantError(t, "too deep", many("", many("", many("", page("", "")))), right, api.ErrMany)
	wantError(t, "just not too deep", many("", many("", page("", ""))), right, api.OK)
	wantError(t, "a wrong name", page("a", ""), wrong, api.ErrText)
	wantError(t, "no such part", page("a", ""), far, api.ErrWho)
	wantError(t, "the last part", many("", page("", "")), far, api.OK)
	wantError(t, "a part below all", page("a", ""), []api.Name{name(-1, "n")}, api.ErrWho)
	wantError(t, "two names of a part", page("a", ""), twice, api.ErrTwice)
	wantError(t, "one name of two parts", many("", page("", "")), []api.Name{name(0, "n"), name(1, "n")}, api.ErrTwice)
	wantError(t, "too many links", page("b", links+"<a href=a>"), nil, api.ErrMany)
	wantError(t, "just not too many links", page("b", links), right, api.OK)
	wantError(t, "too many links of no page", api.Part{Type: "text/plain", Body: []byte(links + links)}, right, api.OK)
	// Check's error is told first, then CheckNames', then Goals'.
	wantError(t, "a wrong How, and a wrong name", api.Part{Type: "text/html", How: -1}, wrong, api.ErrRange)
	wantError(t, "no Parts, and no such part", many(""), far, api.ErrForm)
	wantError(t, "a wrong part behind a page with too many links", many("", page("", links+links), many("")), wrong, api.ErrForm)
	wantError(t, "too many links, and a wrong name", page("b", links+links), wrong, api.ErrText)
	wantError(t, "too many links, and no such part", page("b", links+links), far, api.ErrWho)
	wantError(t, "too many links, and two names of a part", page("b", links+links), twice, api.ErrTwice)
}

func TestPagesThatGrowTooLong(t *testing.T) {
	body := "<a href=a>" + times(" ", 3990)
	wantError(t, "a page as long as before", page("a", body), []api.Name{name(0, "n")}, api.OK)
	wantError(t, "a page that is a byte too long", page("a", body), []api.Name{name(0, "nn")}, api.ErrMany)
	wantError(t, "a page just not too long", page("a", body[:3999]), []api.Name{name(0, "nn")}, api.OK)
	wantError(t, "a page whose links lead elsewhere", page("b", body), []api.Name{name(0, times("n", 30))}, api.OK)
	wantError(t, "a long part that is no page", api.Part{Type: "text/plain", Location: "a", Body: []byte(body)}, []api.Name{name(0, "nn")}, api.OK)
	// One link takes what another one leaves, ahead of it or behind.
	for _, s := range []string{"<a href=a><a href=./././b>", "<a href=./././b><a href=a>"} {
		p := many("", page("a", s+times(" ", 4000-len(s))), page("b", ""))
		wantError(t, "a page with a longer and a shorter link", p, []api.Name{name(1, "nnnnnnn"), name(2, "b")}, api.OK)
		wantError(t, "a page with links that are longer in all", p, []api.Name{name(1, "nnnnnnnn"), name(2, "b")}, api.ErrMany)
	}
	// One part that grows too long is enough, and leaves nothing of the others.
	for _, l := range [][]api.Part{{page("a", body), page("", "<a href=a>")}, {page("", "<a href=a>"), page("a", body)}, {page("", "<a href=a>"), many("", page("a", body))}} {
		p := many("", l...)
		number := 1
		for all, _ := part.All(p); all[number].Location != "a"; {
			number++
		}
		wantError(t, "a bundle as long as before", p, []api.Name{name(number, "n")}, api.OK)
		wantError(t, "a bundle with a page too long", p, []api.Name{name(number, "nn")}, api.ErrMany)
	}
}

// One bundle of three levels, with each choice of these Locations and IDs, links to all that they may say, and each choice of names.
func TestAllChoicesOfPlacesAndNames(t *testing.T) {
	locations := []string{"", ":", "a", "#f", "x://h/a", "cid:a"}
	body := "<a href><img src=a href='#f'><a href=\"/a\"><a href=x://h/a><a href=cid:a><a href=''></a href=a><a href=:><a href=thismessage:/a#g>"
	for _, outer := range locations {
		for _, first := range locations {
			for _, last := range locations {
				one, deep, alone := page(first, body), many("", page("a", body)), picture(last, "a")
				p := many(outer, one, deep, alone)
				for choice := range 1 << 5 {
					var names []api.Name
					for k := range 5 {
						if choice>>k&1 == 1 {
							names = append(names, name(k, times("n", k+1)))
						}
					}
					wantNames(t, p, names)
				}
			}
		}
	}
}

func TestOnlyReadsWhatIsHandedIn(t *testing.T) {
	body, room := "<a href=a src='cid:x'>", "<a href=b>, and room behind"
	bytes := []byte(body + room)
	parts := []api.Part{{Type: "text/html", Body: bytes[:len(body)]}, picture("a", "x"), many("", picture("room", "room"))}
	names := []api.Name{name(2, "n"), name(9, "room")}
	p := many("x://h/", parts[:2]...)
	before := fmt.Sprint(parts, names, p)
	q, e := Names(p, names[:1])
	if e != api.OK || CheckNames(names[:1], 3) != api.OK || fmt.Sprint(parts, names, p) != before || string(bytes) != body+room {
		t.Fatalf("error %d, or what was handed in, or the room behind it, was changed", e)
	}
	clear(bytes)
	clear(parts[1].Body)
	clear(parts)
	clear(names)
	if want := many("x://h/", page("", "<a href=n src='n'>"), picture("a", "x")); !part.Same(q, want) {
		t.Errorf("Names keeps what was handed in: %s; want %s", told(q), told(want))
	}
}

// The same lists may stand in several parts that are handed in, but not in what is answered.
func TestAnswersNewMemory(t *testing.T) {
	body := []byte("<a href=a>")
	list := []api.Part{{Type: "text/html", Location: "a", Body: body}, {Type: "text/html", Body: body}, {Type: "text/plain", Body: body}, {Type: "text/plain", Body: body[:0]}}
	p := many("x://h/", many("", list...), many("", list...))
	before := fmt.Sprint(p)
	for _, names := range [][]api.Name{nil, {name(2, "n")}, {name(7, "n")}} {
		q, e := Names(p, names)
		if e != api.OK {
			t.Fatalf("Names(%s): %d", told(p), e)
		}
		want := fmt.Sprint(q.Parts[1])
		for i := range q.Parts[0].Parts {
			b := q.Parts[0].Parts[i].Body
			clear(b[:cap(b)])
			// If one of them shared its room, this would be seen in another one.
			for _, x := range q.Parts[0].Parts[i+1:] {
				if len(x.Body) > 0 && x.Body[0] != '<' {
					t.Errorf("parts of one answer share a Body")
				}
			}
		}
		clear(q.Parts[0].Parts[:cap(q.Parts[0].Parts)])
		if fmt.Sprint(q.Parts[1]) != want {
			t.Errorf("parts of one answer share a list")
		}
		clear(q.Parts[:cap(q.Parts)])
		if fmt.Sprint(p) != before {
			t.Fatalf("Names answers what was handed in")
		}
	}
}

func FuzzCheckNames(f *testing.F) {
	f.Add(0, "a", 2, "b1.", 3)
	f.Add(1, "a", 0, "", -1)
	f.Fuzz(func(t *testing.T, k int, s string, l int, u string, parts int) {
		wantCheck(t, []api.Name{name(k, s), name(l, u)}, parts)
	})
}

func FuzzNames(f *testing.F) {
	f.Add("http://h/a/b", "", "<a href='c'><img SRC=cid:x><a href=#d>", "c", "x", "page", "p.png")
	f.Add(":", "a", "<a href=''><a href=>", "a#f", "", "a", "b")
	f.Fuzz(func(t *testing.T, outer, location, body, last, id, first, second string) {
		wantNames(t, many(outer, page(location, body), many(last, picture("", id)), picture(last, id)), []api.Name{name(1, first), name(4, second)})
		wantNames(t, page(location, body), []api.Name{name(0, first)})
	})
}
