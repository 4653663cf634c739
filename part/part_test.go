package part

import (
	"bytes"
	"fmt"
	"math"
	"reflect"
	"regexp"
	"slices"
	"strings"
	"testing"

	"scrapbook/api"
)

// A second reading of the chapter, by patterns and by counting levels: what the package answers is held against it.
const smallToken = "[!#$%&'*+.0-9^_`a-z{|}~-]{1,30}"

var (
	typeForm    = regexp.MustCompile(`\A` + smallToken + `/` + smallToken + `\z`)
	wordForm    = regexp.MustCompile(`\A[!#-;=?-~]{0,120}\z`)
	charsetForm = regexp.MustCompile("\\A[!#$%&'*+.0-9A-Z^_`a-z{|}~-]{0,30}\\z")
	manyForm    = regexp.MustCompile(`\Amultipart/`)
)

// levels: how many parts there are in all, and how many levels of them.
func levels(p api.Part) (parts, deep int) {
	for level := []api.Part{p}; len(level) > 0; deep++ {
		var next []api.Part
		for _, q := range level {
			next = append(next, q.Parts...)
		}
		parts += len(level)
		level = next
	}
	return parts, deep
}

func expectedAlone(p api.Part) api.Errno {
	if !typeForm.MatchString(p.Type) || !charsetForm.MatchString(p.Charset) || !wordForm.MatchString(p.ID) || !wordForm.MatchString(p.Location) {
		return api.ErrText
	}
	if !slices.Contains([]int{0, 1, 2}, p.How) {
		return api.ErrRange
	}
	if len(p.Body) >= 4001 {
		return api.ErrMany
	}
	many := manyForm.MatchString(p.Type)
	if many && len(p.Parts) == 0 || many && len(p.Body) > 0 || many && p.How != 0 || many && p.Charset != "" || !many && len(p.Parts) > 0 {
		return api.ErrForm
	}
	return api.OK
}

// expectedList tells All and Within of p, whose number is own, without their errors.
func expectedList(p api.Part, own, in int) (l []api.Part, within []int) {
	alone := p
	alone.Parts = nil
	l, within = []api.Part{alone}, []int{in}
	for _, q := range p.Parts {
		more, moreWithin := expectedList(q, own+len(l), own)
		l, within = append(l, more...), append(within, moreWithin...)
	}
	return l, within
}

func expectedCheck(p api.Part) api.Errno {
	if parts, deep := levels(p); parts > 12 || deep > 3 {
		return api.ErrMany
	}
	return expectedEach(p)
}

func expectedEach(p api.Part) api.Errno {
	if e := expectedAlone(p); e != api.OK {
		return e
	}
	for _, q := range p.Parts {
		if e := expectedEach(q); e != api.OK {
			return e
		}
	}
	return api.OK
}

// wantAll holds Check, All, Within and Same of p against what is told.
func wantAll(t *testing.T, p api.Part, wantErr api.Errno) {
	t.Helper()
	if e := Check(p); e != wantErr {
		t.Fatalf("Check(%.400v): %d; want %d", p, e, wantErr)
	}
	l, e := All(p)
	within, e2 := Within(p)
	if e != wantErr || e2 != wantErr {
		t.Fatalf("All, Within(%.400v): errors %d, %d; want %d", p, e, e2, wantErr)
	}
	if e != api.OK {
		if l != nil || within != nil {
			t.Fatalf("All, Within(%.400v): error %d, and a list", p, e)
		}
		return
	}
	wantList, wantWithin := expectedList(p, 0, -1)
	if !slices.EqualFunc(l, wantList, sameFields) {
		t.Fatalf("All(%.400v): %.400v; want %.400v", p, l, wantList)
	}
	if !slices.Equal(within, wantWithin) {
		t.Fatalf("Within(%.400v): %v; want %v", p, within, wantWithin)
	}
	if !Same(p, p) {
		t.Fatalf("Same of %.400v and itself: false", p)
	}
}

func wantExpected(t *testing.T, p api.Part) {
	t.Helper()
	wantAll(t, p, expectedCheck(p))
}

// sameFields holds two parts against each other by the library; nothing and an empty list are made one ahead.
func sameFields(a, b api.Part) bool { return reflect.DeepEqual(tidy(a), tidy(b)) }

func tidy(p api.Part) api.Part {
	p.Body = append([]byte{}, p.Body...)
	l := []api.Part{}
	for _, q := range p.Parts {
		l = append(l, tidy(q))
	}
	p.Parts = l
	return p
}

func many(l ...api.Part) api.Part { return api.Part{Type: "multipart/x", Parts: l} }

func leaf(n int) api.Part {
	return api.Part{Type: "a/b", ID: fmt.Sprintf("id%d", n), Body: []byte{byte(n)}}
}

func leaves(n int) []api.Part {
	var l []api.Part
	for i := range n {
		l = append(l, leaf(i))
	}
	return l
}

// tree with something in each field, and three levels.
func tree() api.Part {
	return api.Part{Type: "multipart/related", ID: "top", Location: "http://h/a/b", Parts: []api.Part{
		{Type: "text/html", Charset: "UTF-8", How: api.Quoted, Body: []byte("<a href='c'>")},
		{Type: "multipart/mixed", Location: "d/", Parts: []api.Part{
			{Type: "image/png", ID: "x", Location: "c", How: api.Base64, Body: []byte{1, 2, 3}},
			{Type: "text/plain"},
		}},
		{Type: "a/b", Body: []byte("last")},
	}}
}

// allTrees hands use each list of trees of n parts in all, of up to deep levels.
func allTrees(n, deep int, use func(l []api.Part)) {
	if n == 0 {
		use(nil)
		return
	}
	if deep == 0 {
		return
	}
	for first := range n {
		allTrees(first, deep-1, func(inner []api.Part) {
			p := api.Part{Type: "a/b", ID: fmt.Sprint(n), Parts: inner}
			if inner != nil {
				p.Type = "multipart/x"
			}
			allTrees(n-1-first, deep, func(l []api.Part) { use(append([]api.Part{p}, l...)) })
		})
	}
}

// eachPart hands use p and each part in it, to be changed where it is.
func eachPart(p *api.Part, use func(q *api.Part)) {
	use(p)
	for i := range p.Parts {
		eachPart(&p.Parts[i], use)
	}
}

// changes: each makes one field of a part another one.
func changes() []func(p *api.Part) {
	return []func(p *api.Part){
		func(p *api.Part) { p.Type += "x" },
		func(p *api.Part) { p.Type = strings.ToUpper(p.Type) },
		func(p *api.Part) { p.Charset += "x" },
		func(p *api.Part) { p.ID += "x" },
		func(p *api.Part) { p.Location += "x" },
		func(p *api.Part) { p.How++ },
		func(p *api.Part) { p.How = -1 },
		func(p *api.Part) { p.Body = append(slices.Clone(p.Body), 0) },
		func(p *api.Part) { p.Body = append([]byte{7}, p.Body[min(1, len(p.Body)):]...) },
		func(p *api.Part) { p.Parts = append(slices.Clone(p.Parts), api.Part{}) },
		func(p *api.Part) { p.ID, p.Location = p.Location+"y", p.ID },
	}
}

func TestTypeOfEachByte(t *testing.T) {
	for c := range 256 {
		one := string([]byte{byte(c)})
		for _, s := range []string{one, one + "/a", "a/" + one, "a" + one + "/b", "a/b" + one, one + "a/b", "a" + one + "b", one + one} {
			if want := typeForm.MatchString(s); Type(s) != want {
				t.Errorf("Type(%q): %t", s, !want)
			}
		}
	}
}

func TestTypeOrdinaryAndWrong(t *testing.T) {
	for _, s := range []string{"a/b", "text/html", "multipart/related", "image/svg+xml", "application/x.y-z", "1/2", "!/~"} {
		if !Type(s) {
			t.Errorf("Type(%q): false", s)
		}
	}
	for _, s := range []string{"", "/", "a", "a/", "/b", "a//b", "/a/b", "a/b/", "a/b/c", "a/B", "A/b", "Text/html", "a /b", "a/ b", " a/b", "a/b ", "a/b;c", "a/é", "\u212a/a"} {
		if Type(s) {
			t.Errorf("Type(%q): true", s)
		}
	}
}

func TestTypeLimits(t *testing.T) {
	for n := range 34 {
		for m := range 34 {
			s := strings.Repeat("a", n) + "/" + strings.Repeat("b", m)
			if want := n >= 1 && n <= 30 && m >= 1 && m <= 30; Type(s) != want {
				t.Errorf("Type of %d and %d bytes: %t", n, m, !want)
			}
		}
	}
}

func TestMany(t *testing.T) {
	for s, want := range map[string]bool{
		"multipart/": true, "multipart/x": true, "multipart/X": true, "multipart//": true, "multipart/ é": true,
		"": false, "m": false, "multipart": false, "multipart;": false, "Multipart/x": false, "MULTIPART/x": false, " multipart/x": false, "multipartx/y": false, "a/multipart/x": false, "text/html": false,
	} {
		if Many(s) != want {
			t.Errorf("Many(%q): %t", s, !want)
		}
	}
}

func TestWordOfEachByte(t *testing.T) {
	for c := range 256 {
		one := string([]byte{byte(c)})
		want := c >= 33 && c <= 126 && !strings.Contains(`"<>`, one)
		for _, s := range []string{one, one + "a", "a" + one, "a" + one + "a", one + one} {
			if Word(s) != want {
				t.Errorf("Word(%q): %t", s, !want)
			}
		}
	}
	for c := range 256 * 256 {
		if s := string([]byte{byte(c >> 8), byte(c)}); Word(s) != wordForm.MatchString(s) {
			t.Errorf("Word(%q): %t", s, Word(s))
		}
	}
}

func TestWordLimits(t *testing.T) {
	for n := range 300 {
		if want := n <= 120; Word(strings.Repeat("a", n)) != want {
			t.Errorf("Word of %d bytes: %t", n, !want)
		}
	}
	for s, want := range map[string]bool{"": true, "a?b": true, "http://h/a?b=c&d#e(f)'g'": true, "a b": false, "<x>": false, "x>": false, "é": false, "\u212a": false, "a\u0301": false} {
		if Word(s) != want {
			t.Errorf("Word(%q): %t", s, !want)
		}
	}
}

func TestCheckOrdinary(t *testing.T) {
	wantAll(t, tree(), api.OK)
	for _, p := range []api.Part{
		{Type: "a/b"}, {Type: "a/b", Body: []byte{}, Parts: []api.Part{}}, {Type: "a/b", Body: []byte("\x00\xff")},
		{Type: "a/b", Charset: "Utf-8", ID: "i", Location: "l", How: api.Quoted, Body: []byte("x")}, {Type: "a/b", How: api.Base64},
		many(leaf(1)), many(many(leaf(1))), many(many(leaf(1)), many(leaf(2), leaf(3)), leaf(4)),
		{Type: "multipart/x", ID: "i", Location: "l", Body: []byte{}, Parts: leaves(1)},
		many(leaf(1), leaf(1)), {Type: "multipartx/y"},
	} {
		wantAll(t, p, api.OK)
	}
}

func TestCheckWrongTexts(t *testing.T) {
	long := strings.Repeat("x", 121)
	for _, c := range []struct {
		p    api.Part
		want api.Errno
	}{
		{api.Part{}, api.ErrText}, {api.Part{Type: "a"}, api.ErrText}, {api.Part{Type: "A/b"}, api.ErrText}, {api.Part{Type: "multipart/", Parts: leaves(1)}, api.ErrText}, {api.Part{Type: "Multipart/x", Parts: leaves(1)}, api.ErrText},
		{api.Part{Type: "a/b", Charset: " "}, api.ErrText}, {api.Part{Type: "a/b", Charset: "a/b"}, api.ErrText}, {api.Part{Type: "a/b", Charset: long[:30]}, api.OK}, {api.Part{Type: "a/b", Charset: long[:31]}, api.ErrText}, {api.Part{Type: "a/b", Charset: "é"}, api.ErrText},
		{api.Part{Type: "a/b", ID: "<x>"}, api.ErrText}, {api.Part{Type: "a/b", ID: "x y"}, api.ErrText}, {api.Part{Type: "a/b", ID: long[:120]}, api.OK}, {api.Part{Type: "a/b", ID: long}, api.ErrText},
		{api.Part{Type: "a/b", Location: "\"x\""}, api.ErrText}, {api.Part{Type: "a/b", Location: "x\n"}, api.ErrText}, {api.Part{Type: "a/b", Location: long[:120]}, api.OK}, {api.Part{Type: "a/b", Location: long}, api.ErrText},
		{api.Part{Type: "multipart/x", Charset: " ", Parts: leaves(1)}, api.ErrText},
	} {
		wantAll(t, c.p, c.want)
		wantAll(t, many(c.p), c.want)
	}
}

func TestCheckHowBodyAndForm(t *testing.T) {
	for _, how := range []int{-1, 3, 4, math.MaxInt, math.MinInt} {
		wantAll(t, api.Part{Type: "a/b", How: how}, api.ErrRange)
		wantAll(t, api.Part{Type: "multipart/x", How: how, Parts: leaves(1)}, api.ErrRange)
	}
	wantAll(t, api.Part{Type: "a/b", Body: make([]byte, 4000)}, api.OK)
	wantAll(t, api.Part{Type: "a/b", Body: make([]byte, 4001)}, api.ErrMany)
	wantAll(t, api.Part{Type: "multipart/x", Body: make([]byte, 4001), Parts: leaves(1)}, api.ErrMany)
	for _, p := range []api.Part{
		{Type: "multipart/x"}, {Type: "multipart/x", Parts: []api.Part{}}, {Type: "multipart/x", Body: []byte("b")},
		{Type: "multipart/x", Body: []byte{0}, Parts: leaves(1)}, {Type: "multipart/x", Charset: "c", Parts: leaves(1)},
		{Type: "multipart/x", How: api.Base64, Parts: leaves(1)}, {Type: "multipart/x", How: api.Quoted, Parts: leaves(1)},
		{Type: "a/b", Parts: leaves(1)}, {Type: "a/b", Parts: []api.Part{{}}}, {Type: "multipartx/y", Parts: leaves(1)},
	} {
		wantAll(t, p, api.ErrForm)
		wantAll(t, many(leaf(1), p), api.ErrForm)
	}
}

func TestCheckCountsParts(t *testing.T) {
	for n := 1; n <= 30; n++ {
		want := api.OK
		if n > 11 {
			want = api.ErrMany
		}
		wantAll(t, many(leaves(n)...), want)
	}
	wantAll(t, many(many(leaves(4)...), many(leaves(5)...)), api.OK)
	wantAll(t, many(many(leaves(5)...), many(leaves(5)...)), api.ErrMany)
	wantAll(t, many(many(leaves(10)...)), api.OK)
	wantAll(t, many(many(leaves(11)...)), api.ErrMany)
	wantAll(t, many(leaf(0), many(leaves(10)...)), api.ErrMany)
}

func TestCheckCountsLevels(t *testing.T) {
	p := leaf(1)
	for deep := 1; deep <= 12; deep++ {
		want := api.OK
		if deep > 3 {
			want = api.ErrMany
		}
		wantAll(t, p, want)
		wantAll(t, many(p.Parts...), expectedCheck(many(p.Parts...)))
		p = many(p)
	}
	wantAll(t, many(leaf(1), many(leaf(2), many(leaf(3)))), api.ErrMany)
}

func TestCheckTellsTheFirstError(t *testing.T) {
	wrong := func(text, how, long, form bool) api.Part {
		p := api.Part{Type: "a/b"}
		if text {
			p.ID = " "
		}
		if how {
			p.How = 3
		}
		if long {
			p.Body = make([]byte, 4001)
		}
		if form {
			p.Parts = leaves(1)
		}
		return p
	}
	for n := range 16 {
		p := wrong(n&1 > 0, n&2 > 0, n&4 > 0, n&8 > 0)
		want := api.OK
		for i, e := range []api.Errno{api.ErrForm, api.ErrMany, api.ErrRange, api.ErrText} {
			if n>>(3-i)&1 > 0 {
				want = e
			}
		}
		wantAll(t, p, want)
		for m := range 16 {
			q := wrong(m&1 > 0, m&2 > 0, m&4 > 0, m&8 > 0)
			wantExpected(t, many(p, q))
			wantExpected(t, many(q, many(leaf(1), p)))
			p.Parts = []api.Part{q}
			wantExpected(t, p)
		}
		// Too many, or too deep, is told ahead of all that is wrong with one of them.
		wantAll(t, many(append(leaves(11), p)...), api.ErrMany)
		wantAll(t, many(p, many(many(leaf(1)))), api.ErrMany)
	}
	wantAll(t, api.Part{Parts: make([]api.Part, 11)}, api.ErrText)
	wantAll(t, api.Part{Parts: make([]api.Part, 12)}, api.ErrMany)
	wantAll(t, many(api.Part{Type: "a/b", Parts: leaves(1)}, api.Part{}), api.ErrForm)
	wantAll(t, api.Part{Type: "a/b", Parts: []api.Part{{}}}, api.ErrForm)
	wantAll(t, many(many(leaf(1), api.Part{Type: "a/b", How: 3}), api.Part{}), api.ErrRange)
	wantAll(t, many(many(leaf(1), leaf(2)), api.Part{}, api.Part{Type: "a/b", How: 3}), api.ErrText)
}

func TestCheckEndsWhereThePartsAreTooMany(t *testing.T) {
	p := many(leaf(1))
	for range 100 {
		p = many(p, p)
	}
	wide := many(make([]api.Part, 1000000)...)
	chain := leaf(1)
	for range 1000000 {
		chain = api.Part{Type: "multipart/x", Parts: []api.Part{chain}}
	}
	for _, q := range []api.Part{p, wide, chain} {
		if e := Check(q); e != api.ErrMany {
			t.Errorf("Check: %d", e)
		}
		if l, e := All(q); l != nil || e != api.ErrMany {
			t.Errorf("All: %d parts, %d", len(l), e)
		}
		if l, e := Within(q); l != nil || e != api.ErrMany {
			t.Errorf("Within: %d numbers, %d", len(l), e)
		}
	}
}

func TestOfAllTrees(t *testing.T) {
	seen := 0
	for n := 1; n <= 8; n++ {
		allTrees(n, 4, func(l []api.Part) {
			seen++
			if len(l) == 1 {
				wantExpected(t, l[0])
			}
			wantExpected(t, many(l...))
		})
	}
	if seen < 1000 {
		t.Errorf("only %d trees", seen)
	}
	for n := 10; n <= 13; n++ {
		allTrees(n, 2, func(l []api.Part) { wantExpected(t, many(l...)) })
	}
}

func TestOfOneChangeInATree(t *testing.T) {
	for i := range 6 {
		for k, change := range changes() {
			p, n := tree(), 0
			eachPart(&p, func(q *api.Part) {
				if n++; n == i+1 {
					change(q)
				}
			})
			wantExpected(t, p)
			if Same(p, tree()) || Same(tree(), p) {
				t.Errorf("part %d: change %d isn't seen by Same", i, k)
			}
			if !Same(p, tidy(p)) {
				t.Errorf("part %d: change %d: Same of two alike is false", i, k)
			}
		}
	}
}

func TestSame(t *testing.T) {
	nothing, empty := api.Part{}, api.Part{Body: []byte{}, Parts: []api.Part{}}
	one := many(nothing)
	for i, l := range [][2]api.Part{
		{nothing, nothing}, {nothing, empty}, {empty, nothing}, {one, many(empty)}, {tree(), tree()}, {tree(), tidy(tree())},
		{{Type: "é", Charset: " ", ID: "<", Location: "\x00", How: -7, Body: make([]byte, 9000)}, {Type: "é", Charset: " ", ID: "<", Location: "\x00", How: -7, Body: make([]byte, 9000)}},
		{many(leaves(50)...), many(leaves(50)...)}, {{Type: "a/b", Parts: leaves(2)}, {Type: "a/b", Parts: leaves(2)}},
	} {
		if !Same(l[0], l[1]) {
			t.Errorf("pair %d: they aren't the same", i)
		}
	}
	for i, l := range [][2]api.Part{
		{nothing, one}, {one, many(nothing, nothing)}, {tree(), many(tree())}, {many(leaf(1), leaf(2)), many(leaf(2), leaf(1))},
		{many(leaf(1), many(leaf(2))), many(many(leaf(1)), leaf(2))}, {many(leaf(1), many(leaf(2))), many(leaf(1), leaf(2))},
		{{Body: []byte{0}}, {}}, {{Body: []byte{0}}, {Body: []byte{0, 0}}}, {{Type: "a"}, {Charset: "a"}}, {{ID: "a"}, {Location: "a"}}, {{How: 0}, {How: 1}},
		{{Type: "a/b"}, {Type: "A/b"}}, {many(leaves(50)...), many(leaves(51)...)}, {many(leaves(50)...), many(append(leaves(49), leaf(7))...)},
	} {
		if Same(l[0], l[1]) || Same(l[1], l[0]) {
			t.Errorf("pair %d: they are the same", i)
		}
	}
}

func TestSameOfAllSmallTrees(t *testing.T) {
	var l []api.Part
	for n := range 6 {
		allTrees(n, 6, func(parts []api.Part) { l = append(l, many(parts...)) })
	}
	for i, a := range l {
		for k, b := range l {
			if Same(a, b) != (i == k) {
				t.Fatalf("Same(%v, %v): %t", a, b, i != k)
			}
		}
	}
}

func TestSameOfDeepParts(t *testing.T) {
	chain := func() (top api.Part, deepest *api.Part) {
		l := []api.Part{leaf(1)}
		deepest = &l[0]
		for range 1000000 {
			l = []api.Part{{Parts: l}}
		}
		return l[0], deepest
	}
	a, _ := chain()
	b, deepest := chain()
	if !Same(a, b) {
		t.Error("parts that lie deep are alike, and aren't the same")
	}
	deepest.How = 1
	if Same(a, b) || Same(b, a) {
		t.Error("parts that lie deep aren't held against each other")
	}
}

func TestOnlyReadsWhatIsHandedIn(t *testing.T) {
	room := []byte("body and room behind")
	partRoom := many(tree(), leaf(1), leaf(2), leaf(3)).Parts
	partRoom[1].Body = room[:4]
	p := api.Part{Type: "multipart/x", Parts: partRoom[1:3]}
	before, beforeRoom := tidy(many(partRoom...)), string(room)
	Check(p)
	All(p)
	Within(p)
	Same(p, many(p))
	Same(p, p)
	if !reflect.DeepEqual(before, tidy(many(partRoom...))) || string(room) != beforeRoom {
		t.Error("the part, or the room behind its lists, was changed")
	}
}

func TestAllAnswersNewMemory(t *testing.T) {
	shared := []byte("shared body")
	p := many(api.Part{Type: "a/b", Body: shared[:6]}, api.Part{Type: "a/b", Body: shared[:6]}, many(api.Part{Type: "c/d", Body: shared[3:]}))
	l, e := All(p)
	if e != api.OK || len(l) != 5 {
		t.Fatalf("All: %d parts, error %d", len(l), e)
	}
	clear(shared)
	for i, want := range []string{"", "shared", "shared", "", "red body"} {
		if string(l[i].Body) != want {
			t.Errorf("part %d: the Body is %q; want %q", i, l[i].Body, want)
		}
		if l[i].Parts != nil {
			t.Errorf("part %d: has Parts", i)
		}
	}
	copy(shared, "shared body")
	for i := range l {
		whole := l[i].Body[:cap(l[i].Body)]
		for k := range whole {
			whole[k] = byte(i)
		}
	}
	for i := range l {
		if whole := l[i].Body[:cap(l[i].Body)]; !bytes.Equal(whole, bytes.Repeat([]byte{byte(i)}, len(whole))) {
			t.Errorf("part %d: its Body shares memory with another one", i)
		}
	}
	if string(shared) != "shared body" {
		t.Error("All's lists share memory with what was handed in")
	}
	within, _ := Within(p)
	clear(within[:cap(within)])
	wantAll(t, p, api.OK)
}

// grown: a tree told by bytes, with fields that may be wrong.
func grown(b []byte) api.Part {
	texts := []string{"a/b", "multipart/x", "", "x", "A/b", "c", " ", "<x>", strings.Repeat("y", 121), "a/", "multipart/"}
	next := func() int {
		if len(b) == 0 {
			return 0
		}
		c := b[0]
		b = b[1:]
		return int(c)
	}
	text := func(usual string) string {
		if n := next(); n < len(texts) {
			return texts[n]
		}
		return usual
	}
	var grow func(deep int) api.Part
	grow = func(deep int) api.Part {
		p := api.Part{Type: "a/b"}
		count := next() % 5
		if deep > 4 {
			count = 0
		}
		if count > 0 {
			p.Type = "multipart/x"
		}
		if next()%8 == 7 {
			p = api.Part{Type: text(p.Type), Charset: text(""), ID: text("i"), Location: text("l"), How: next()%6 - 1, Body: make([]byte, next()*next())}
		}
		for range count {
			p.Parts = append(p.Parts, grow(deep+1))
		}
		return p
	}
	return grow(1)
}

func FuzzParts(f *testing.F) {
	for _, s := range []string{"", "\x02\x00\x01\x00\x00\x00", "\x04\x00\x04\x00\x04\x00\x00", "\x00\x07\x20\x03\x20\x20\x02\x00\x00", "\x02\x07\x01\x02\x03\x03\x01\x00\x00\x00\x07\x20\x20\x20\x20\x02\xff\x0f", "\x01\x00\x01\x00\x01\x00\x00\x00"} {
		f.Add([]byte(s), []byte("\x00"))
	}
	f.Fuzz(func(t *testing.T, x, y []byte) {
		p, q := grown(x), grown(y)
		wantExpected(t, p)
		wantExpected(t, many(p, q))
		if want := sameFields(p, q); Same(p, q) != want || Same(q, p) != want {
			t.Fatalf("Same(%.400v, %.400v): %t", p, q, !want)
		}
	})
}

func FuzzTexts(f *testing.F) {
	for _, s := range []string{"", "a/b", "multipart/x", "a/B", "a/b/c", "a?b", "<x>", "é", "\xc1\x81/a"} {
		f.Add(s)
	}
	f.Fuzz(func(t *testing.T, s string) {
		if Type(s) != typeForm.MatchString(s) || Many(s) != manyForm.MatchString(s) || Word(s) != wordForm.MatchString(s) {
			t.Fatalf("%q: Type %t, Many %t, Word %t", s, Type(s), Many(s), Word(s))
		}
	})
}
