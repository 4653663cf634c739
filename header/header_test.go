package header

import (
	"fmt"
	"regexp"
	"slices"
	"strings"
	"testing"

	"scrapbook/api"
)

// A second reading of the chapter, by patterns: what the package answers is held against it.
const tokenBytes = "[!#$%&'*+.0-9A-Z^_`a-z{|}~-]{1,30}"

var (
	tokenForm = regexp.MustCompile(`\A` + tokenBytes + `\z`)
	valueForm = regexp.MustCompile(`\A([!-~]([ -~]{0,898}[!-~])?)?\z`)
	lineForm  = regexp.MustCompile(`(?s)\A(.*?)\r?\n\z`)
	moreForm  = regexp.MustCompile(`(?s)\A[ \t]+(.*?)[ \t]*\z`)
	fieldForm = regexp.MustCompile(`(?s)\A([^:]*):[ \t]*(.*?)[ \t]*\z`)
	mainForm  = regexp.MustCompile(`\A *([^;]*?) *(;.*)?\z`)
	paramForm = regexp.MustCompile(`\A; *(` + tokenBytes + `) *= *(?:"([^"]*)"|(` + tokenBytes + `)) *(;.*)?\z`)
)

func expectedCheck(l []api.Field) api.Errno {
	if len(l) > 20 {
		return api.ErrMany
	}
	for _, f := range l {
		if !tokenForm.MatchString(f.Name) || !valueForm.MatchString(f.Value) {
			return api.ErrText
		}
	}
	return api.OK
}

func expectedParse(s string) ([]api.Field, int, api.Errno) {
	if len(s) > 40000 {
		return nil, 0, api.ErrMany
	}
	var l []api.Field
	at := 0
	for _, whole := range strings.SplitAfter(s, "\n") {
		at += len(whole)
		line := lineForm.FindStringSubmatch(whole)
		if line == nil {
			return nil, 0, api.ErrText
		}
		if line[1] == "" {
			break
		}
		if m := moreForm.FindStringSubmatch(line[1]); m != nil {
			if len(l) == 0 {
				return nil, 0, api.ErrText
			}
			if v := &l[len(l)-1].Value; *v == "" || m[1] == "" {
				*v += m[1]
			} else {
				*v += " " + m[1]
			}
		} else if m := fieldForm.FindStringSubmatch(line[1]); m != nil {
			l = append(l, api.Field{Name: m[1], Value: m[2]})
		} else {
			return nil, 0, api.ErrText
		}
		if len(l) > 20 {
			return nil, 0, api.ErrMany
		}
	}
	if e := expectedCheck(l); e != api.OK {
		return nil, 0, e
	}
	return l, at, api.OK
}

func expectedParams(s string) (string, []api.Field, api.Errno) {
	if !valueForm.MatchString(s) {
		return "", nil, api.ErrText
	}
	first := mainForm.FindStringSubmatch(s)
	var l []api.Field
	for rest := first[2]; rest != ""; {
		m := paramForm.FindStringSubmatch(rest)
		if m == nil {
			return "", nil, api.ErrText
		}
		l = append(l, api.Field{Name: strings.ToLower(m[1]), Value: m[2] + m[3]})
		if len(l) > 20 {
			return "", nil, api.ErrMany
		}
		rest = m[4]
	}
	return strings.ToLower(first[1]), l, api.OK
}

func wantParse(t *testing.T, s string, want []api.Field, wantBody int, wantErr api.Errno) {
	t.Helper()
	l, body, e := Parse([]byte(s))
	if e != wantErr || body != wantBody || !slices.Equal(l, want) {
		t.Fatalf("Parse(%.200q) (%d bytes): %.300q, %d, %d; want %.300q, %d, %d", s, len(s), l, body, e, want, wantBody, wantErr)
	}
	if e != api.OK && l != nil {
		t.Fatalf("Parse(%.200q): error %d, and a list", s, e)
	}
}

func wantParams(t *testing.T, s, wantMain string, want []api.Field, wantErr api.Errno) {
	t.Helper()
	main, l, e := Params(s)
	if e != wantErr || main != wantMain || !slices.Equal(l, want) {
		t.Fatalf("Params(%.200q): %q, %.300q, %d; want %q, %.300q, %d", s, main, l, e, wantMain, want, wantErr)
	}
	if e != api.OK && l != nil {
		t.Fatalf("Params(%.200q): error %d, and a list", s, e)
	}
}

func wantPrint(t *testing.T, l []api.Field, want string, wantErr api.Errno) {
	t.Helper()
	if s, e := Print(l); s != want || e != wantErr {
		t.Fatalf("Print(%.300q): %.200q, %d; want %.200q, %d", l, s, e, want, wantErr)
	}
}

func wantCheck(t *testing.T, l []api.Field, want api.Errno) {
	t.Helper()
	if e := Check(l); e != want {
		t.Fatalf("Check(%.300q): %d; want %d", l, e, want)
	}
}

// fields: pairs of a name and a value.
func fields(words ...string) []api.Field {
	var l []api.Field
	for i := 0; i < len(words); i += 2 {
		l = append(l, api.Field{Name: words[i], Value: words[i+1]})
	}
	return l
}

// numbered: n fields, no two alike.
func numbered(n int) []api.Field {
	var l []api.Field
	for i := range n {
		l = append(l, api.Field{Name: fmt.Sprintf("f%d", i), Value: fmt.Sprintf("v%d", i)})
	}
	return l
}

// allTexts hands use each text of up to n of the letters of few.
func allTexts(few string, n int, use func(s string)) {
	var grow func(s string)
	grow = func(s string) {
		use(s)
		for i := range len(few) {
			if len(s) < n {
				grow(s + few[i:i+1])
			}
		}
	}
	grow("")
}

func TestTokenOfEachByte(t *testing.T) {
	for c := range 256 {
		one := string([]byte{byte(c)})
		want := c >= 33 && c <= 126 && !strings.Contains(`()<>@,;:\"/[]?=`, one)
		for _, s := range []string{one, one + "a", "a" + one, "a" + one + "a"} {
			if Token(s) != want {
				t.Errorf("Token(%q): %t", s, !want)
			}
		}
	}
}

func TestTokenLimits(t *testing.T) {
	for n := range 70 {
		if want := n >= 1 && n <= 30; Token(strings.Repeat("a", n)) != want {
			t.Errorf("Token of %d bytes: %t", n, !want)
		}
	}
	for _, s := range []string{"é", "aé", "\u212a", "a b", " a", "a ", "\x00"} {
		if Token(s) {
			t.Errorf("Token(%q)", s)
		}
	}
}

func TestValueOfEachByte(t *testing.T) {
	for c := range 256 {
		one := string([]byte{byte(c)})
		inside := c >= 32 && c <= 126
		for _, x := range []struct {
			s    string
			want bool
		}{{one, inside && c != ' '}, {one + "a", inside && c != ' '}, {"a" + one, inside && c != ' '}, {"a" + one + "a", inside}} {
			if Value(x.s) != x.want {
				t.Errorf("Value(%q): %t", x.s, !x.want)
			}
		}
	}
}

func TestValueLimits(t *testing.T) {
	for _, n := range []int{0, 1, 31, 899, 900} {
		if !Value(strings.Repeat("a", n)) {
			t.Errorf("Value of %d bytes: false", n)
		}
	}
	for _, s := range []string{strings.Repeat("a", 901), strings.Repeat("a", 9000), "a" + strings.Repeat(" ", 899) + "b", " ", "  ", "é"} {
		if Value(s) {
			t.Errorf("Value(%.20q) (%d bytes): true", s, len(s))
		}
	}
	if s := "a" + strings.Repeat(" ", 898) + "b"; !Value(s) {
		t.Error("Value of 900 bytes with blanks inside: false")
	}
}

func TestCheck(t *testing.T) {
	wantCheck(t, nil, api.OK)
	wantCheck(t, []api.Field{}, api.OK)
	wantCheck(t, numbered(20), api.OK)
	wantCheck(t, numbered(21), api.ErrMany)
	wantCheck(t, fields("a", "b", "a", "", "A", "b c"), api.OK)
	wantCheck(t, make([]api.Field, 20), api.ErrText)
	wantCheck(t, make([]api.Field, 21), api.ErrMany)
	for i := range 20 {
		for _, wrong := range fields("", "v", "a b", "v", "a:", "v", strings.Repeat("n", 31), "v", "n", " v", "n", "v ", "n", "v\n", "n", strings.Repeat("v", 901)) {
			l := numbered(20)
			l[i] = wrong
			wantCheck(t, l, api.ErrText)
			wantPrint(t, l, "", api.ErrText)
		}
	}
}

func TestPrint(t *testing.T) {
	wantPrint(t, nil, "\r\n", api.OK)
	wantPrint(t, []api.Field{}, "\r\n", api.OK)
	wantPrint(t, fields("A", "b; c", "D", "e"), "A: b; c\r\nD: e\r\n\r\n", api.OK)
	wantPrint(t, fields("a", "", "a", ":"), "a: \r\na: :\r\n\r\n", api.OK)
	wantPrint(t, numbered(21), "", api.ErrMany)
	wantPrint(t, make([]api.Field, 21), "", api.ErrMany)
}

func TestParseOrdinary(t *testing.T) {
	for _, c := range []struct {
		text string
		want []api.Field
		body int
	}{
		{"\n", nil, 1}, {"\r\n", nil, 2}, {"\nf", nil, 1}, {"\r\na: b\n\n", nil, 2},
		{"A: b\n\n", fields("A", "b"), 6}, {"A: b\r\n\r\n", fields("A", "b"), 8}, {"A:b\n\r\nrest", fields("A", "b"), 6},
		{"A: b\n\n\n\n", fields("A", "b"), 6}, {"A:\n\n", fields("A", ""), 4}, {"A: \t \n\n", fields("A", ""), 7},
		{"A: \t b  c \t\n\n", fields("A", "b  c"), 13}, {"A:b:c: d\n\n", fields("A", "b:c: d"), 10}, {"A::\n\n", fields("A", ":"), 5},
		{"A: b;\n c\r\nD:e\n\nf", fields("A", "b; c", "D", "e"), 15},
		{"a: 1\na: 2\nA: 3\n\n", fields("a", "1", "a", "2", "A", "3"), 16},
		{"\n\x00\xff", nil, 1}, {"A: b\n\n c\n", fields("A", "b"), 6},
	} {
		wantParse(t, c.text, c.want, c.body, api.OK)
	}
}

func TestParseLinesThatGoOn(t *testing.T) {
	for _, c := range []struct{ text, want string }{
		{"A: b\n c\n\n", "b c"}, {"A: b\n\tc\n\n", "b c"}, {"A: b \t\n \t c \t \n\n", "b c"}, {"A: b\r\n c\r\n\r\n", "b c"},
		{"A:\n c\n\n", "c"}, {"A: b\n \n\n", "b"}, {"A: b\n\t\r\n\n", "b"}, {"A:\n \n\n", ""}, {"A:\n \n c\n\n", "c"},
		{"A: b\n \n c\n\n", "b c"}, {"A: b\n c\n d\n\te\n\n", "b c d e"}, {"A: b\n c: d\n\n", "b c: d"}, {"A: b\n :\n\n", "b :"},
		{"A: b\n c  d\n\n", "b c  d"},
	} {
		wantParse(t, c.text, fields("A", c.want), len(c.text), api.OK)
	}
	wantParse(t, "A: b\nC: d\n e\nF: g\n\n", fields("A", "b", "C", "d e", "F", "g"), 19, api.OK)
}

func TestParseWrongTexts(t *testing.T) {
	for _, s := range []string{
		"", "\r", "a", "a: b", "a: b\n", "a: b\r\n", "a: b\n\r", "a: b\n c", "a: b\n c\n", "a: b\nc: d", "a: b\nc: d\n", // no empty line
		" a\n\n", "\ta\n\n", " a: b\n\n", " \n\n", "\t\r\n\n", " a: b\nc: d\n\n", // no field ahead
		"a\n\n", "a b\n\n", "a: b\nc\n\n", "a=b\n\n", "\r\r\n\n", // no colon
		":\n\n", ": b\n\n", "a : b\n\n", "a b: c\n\n", "a\t: b\n\n", "a/b: c\n\n", "\x00: c\n\n", "é: c\n\n", // no token
		strings.Repeat("n", 31) + ": c\n\n",
		"a: \x01\n\n", "a: b\tc\n\n", "a: b\rc\n\n", "a: b\r\r\n\n", "a: é\n\n", "a: \x7f\n\n", "a: b\n c\td\n\n", "a: b\n \r\r\n\n", // no value
		"a: " + strings.Repeat("v", 901) + "\n\n",
		"a: \x01\n b\n\n", "a b: c\nd: e\n\n",
	} {
		wantParse(t, s, nil, 0, api.ErrText)
	}
}

func TestParseLimits(t *testing.T) {
	full := "a: b\n\n" + strings.Repeat("x", 40000-6)
	wantParse(t, full, fields("a", "b"), 6, api.OK)
	wantParse(t, full+"x", nil, 0, api.ErrMany)
	wantParse(t, strings.Repeat("x", 40001), nil, 0, api.ErrMany)
	wantParse(t, strings.Repeat("x", 40000), nil, 0, api.ErrText)

	name, value := strings.Repeat("n", 30), strings.Repeat("v", 900)
	wantParse(t, name+":"+value+"\n\n", fields(name, value), 933, api.OK)
	wantParse(t, "a:"+value[:450]+"\n "+value[:449]+"\n\n", fields("a", value[:450]+" "+value[:449]), 905, api.OK)
	wantParse(t, "a:"+value[:450]+"\n "+value[:450]+"\n\n", nil, 0, api.ErrText)
	wantParse(t, "a:"+strings.Repeat(" ", 1000)+value+strings.Repeat("\t", 1000)+"\n\n", fields("a", value), 2904, api.OK)
	wantParse(t, "a: b\n"+strings.Repeat(" \n", 10000)+"\n", fields("a", "b"), 20006, api.OK)
	wantParse(t, "a: b\n"+strings.Repeat(" c\n", 10000)+"\n", nil, 0, api.ErrText)
}

func TestParseCountsFields(t *testing.T) {
	text := func(n int) string {
		s := ""
		for _, f := range numbered(n) {
			s += f.Name + ": " + f.Value + "\n"
		}
		return s
	}
	for n := range 21 {
		wantParse(t, text(n)+"\n", numbered(n), len(text(n))+1, api.OK)
	}
	wantParse(t, text(21)+"\n", nil, 0, api.ErrMany)
	more := numbered(20)
	more[19].Value += " more"
	wantParse(t, text(20)+" more\n\n", more, len(text(20))+7, api.OK)
	// The line of one too many tells it, ahead of all that is wrong behind, and of what only Check sees.
	wantParse(t, text(21), nil, 0, api.ErrMany)
	wantParse(t, text(21)+"wrong\n\n", nil, 0, api.ErrMany)
	wantParse(t, "a b: c\n"+text(20), nil, 0, api.ErrMany)
	wantParse(t, strings.Repeat(":\n", 21), nil, 0, api.ErrMany)
	wantParse(t, strings.Repeat(":\n", 20)+"\n", nil, 0, api.ErrText)
	wantParse(t, text(20)+"wrong\nf: v\n\n", nil, 0, api.ErrText)
	wantParse(t, text(20)+"f: v", nil, 0, api.ErrText)
	wantParse(t, " \n"+text(21)+"\n", nil, 0, api.ErrText)
}

func TestParseOfAllShortTexts(t *testing.T) {
	allTexts("a: \t\r\n\x01", 6, func(s string) {
		l, body, e := expectedParse(s)
		wantParse(t, s, l, body, e)
	})
	allTexts("a: \r\n", 5, func(s string) {
		s = "A:b\n" + s + "\n\n"
		l, body, e := expectedParse(s)
		wantParse(t, s, l, body, e)
	})
}

func TestParseOfPrintIsTheFields(t *testing.T) {
	longest := make([]api.Field, 20)
	for i := range longest {
		longest[i] = api.Field{Name: strings.Repeat("n", 30), Value: strings.Repeat("v", 900)}
	}
	lists := [][]api.Field{nil, numbered(20), longest, fields("a", "", "B", ":", "c", "d  e", "!~", "!~", "a", "\\\"")}
	for c := range 256 {
		one := string([]byte{byte(c)})
		lists = append(lists, fields("a", one), fields("a", "b"+one+"c"), fields(one, "a"), fields("a"+one, ""))
	}
	printed := 0
	for _, l := range lists {
		s, e := Print(l)
		if e != expectedCheck(l) {
			t.Fatalf("Print(%.300q): error %d", l, e)
		}
		if e == api.OK {
			printed++
			wantParse(t, s, l, len(s), api.OK)
			wantParse(t, s+"\r\nb: c\r\n\r\n", l, len(s), api.OK)
		}
	}
	if printed < 4+94+95+79+79 {
		t.Errorf("only %d lists were printed", printed)
	}
}

func TestGet(t *testing.T) {
	l := fields("A", "1", "b", "", "B", "2", "a", "3", "Content-Type", "t", "k", "4", "s", "8", "", "5", "x y", "6", "\xff", "7")
	for name, want := range map[string]string{
		"A": "1", "a": "1", "b": "", "B": "", "content-type": "t", "CONTENT-TYPE": "t", "Content-Type ": "", "Content": "",
		"K": "4", "\u212a": "4", "\u017f": "8", "": "5", "X Y": "6", "c": "", "á": "",
	} {
		if got := Get(l, name); got != want {
			t.Errorf("Get of %q: %q; want %q", name, got, want)
		}
	}
	for _, none := range [][]api.Field{nil, {}} {
		if got := Get(none, "a") + Get(none, ""); got != "" {
			t.Errorf("Get of nothing: %q", got)
		}
	}
	if got := Get(append(numbered(500), fields("last", "one")...), "LAST"); got != "one" {
		t.Errorf("Get of the last of many: %q", got)
	}
}

func TestParamsOrdinary(t *testing.T) {
	for _, c := range []struct {
		text, main string
		want       []api.Field
	}{
		{"", "", nil}, {"a", "a", nil}, {"Text/HTML", "text/html", nil}, {"AZaz@[`{", "azaz@[`{", nil}, {"a b", "a b", nil}, {"A = \"B", "a = \"b", nil},
		{"Text/X ; a=\"b c\"; D= e ;f=g", "text/x", fields("a", "b c", "d", "e", "f", "g")},
		{";a=b", "", fields("a", "b")}, {"m;a=b", "m", fields("a", "b")}, {"m  ;  a  =  b", "m", fields("a", "b")},
		{"m;NAME=VaLuE", "m", fields("name", "VaLuE")}, {"m;A=\"Q\"", "m", fields("a", "Q")},
		{"m;a=\"\"", "m", fields("a", "")}, {"m;a=\" b \"", "m", fields("a", " b ")}, {"m;a=  \"b\"  ;c=d", "m", fields("a", "b", "c", "d")},
		{"m;a=\";=\\\";b=c", "m", fields("a", ";=\\", "b", "c")}, {"m;a=\"b;c=d\"", "m", fields("a", "b;c=d")},
		{"m;a=b;a=c;A=d", "m", fields("a", "b", "a", "c", "a", "d")}, {"m;a=b  ;c=d", "m", fields("a", "b", "c", "d")},
		{"multipart/related; boundary=\"=_1\"", "multipart/related", fields("boundary", "=_1")},
	} {
		wantParams(t, c.text, c.main, c.want, api.OK)
	}
}

func TestParamsWrongTexts(t *testing.T) {
	for _, s := range []string{
		" a", "a ", " ", "a;b=c ", "a\tb", "a;b=\"\x01\"", "a;b=\"é\"", "a\n", // no value
		"a;", ";", ";;", "a; b", "a;b;c=d", "a;b=c;", "a;b=c;;d=e", "a;\"b\"", // nothing is set
		"a;=", "a;=b", "a; =b", "a;b c=d", "a;b/c=d", "a;\"b\"=c", "a;b;c=d=e", // no token as a name
		"a;b=", "a;b=;c=d", "a;b= ;c=d", "a;b=c d", "a;b=c=d", "a;b==c", "a;b=c/d", "a;b=c\"d\"", "a;b=c\"", "a;b=(c)", // no token as a value
		"a;b=\"", "a;b=\"c", "a;b=\"c;d=e", "a;b=\"c\"d\"", "a;b=\"c\"d\"e\"", // no second quote
		"a;b=\"c\"d", "a;b=\"c\" d", "a;b=\"c\"\"d\"", "a;b=\"c\"=", "a;b=\"c\"d;e=f", "a;b=\"c\\\"d\"", // more behind the quotes
	} {
		wantParams(t, s, "", nil, api.ErrText)
	}
}

func TestParamsLimits(t *testing.T) {
	long := strings.Repeat("x", 31)
	wantParams(t, "m;"+long[1:]+"="+long[1:], "m", fields(long[1:], long[1:]), api.OK)
	wantParams(t, "m;"+long+"=v", "", nil, api.ErrText)
	wantParams(t, "m;n="+long, "", nil, api.ErrText)
	wantParams(t, "m;n=\""+long+"\"", "m", fields("n", long), api.OK)
	wantParams(t, strings.Repeat("M", 900), strings.Repeat("m", 900), nil, api.OK)
	wantParams(t, strings.Repeat("M", 901), "", nil, api.ErrText)
	wantParams(t, "m;n=\""+strings.Repeat("v", 894)+"\"", "m", fields("n", strings.Repeat("v", 894)), api.OK)
	wantParams(t, "m;n=\""+strings.Repeat("v", 895)+"\"", "", nil, api.ErrText)
}

func TestParamsCountsThem(t *testing.T) {
	text := func(n int) string {
		s := "m"
		for _, f := range numbered(n) {
			s += "; " + f.Name + "=" + f.Value
		}
		return s
	}
	for n := range 21 {
		wantParams(t, text(n), "m", numbered(n), api.OK)
	}
	wantParams(t, text(21), "", nil, api.ErrMany)
	wantParams(t, text(22), "", nil, api.ErrMany)
	wantParams(t, text(21)+";", "", nil, api.ErrMany)
	wantParams(t, text(21)+"; wrong", "", nil, api.ErrMany)
	wantParams(t, text(20)+";", "", nil, api.ErrText)
	wantParams(t, text(20)+"; wrong; f=v", "", nil, api.ErrText)
	wantParams(t, text(21)+" ", "", nil, api.ErrText)
	wantParams(t, "m"+strings.Repeat(";n=\"\"", 20), "m", slices.Repeat(fields("n", ""), 20), api.OK)
	wantParams(t, "m"+strings.Repeat(";n=\"\"", 21), "", nil, api.ErrMany)
}

func TestParamsOfAllShortTexts(t *testing.T) {
	allTexts("aB;=\" /", 6, func(s string) {
		main, l, e := expectedParams(s)
		wantParams(t, s, main, l, e)
		main, l, e = expectedParams("M;a=" + s)
		wantParams(t, "M;a="+s, main, l, e)
	})
}

func TestOnlyReadsWhatIsHandedIn(t *testing.T) {
	room := numbered(12)
	for n := range 12 {
		Check(room[:n])
		Print(room[:n])
		Get(room[:n], "F3")
	}
	if !slices.Equal(room, numbered(12)) {
		t.Error("the fields, or the room behind them, were changed")
	}
	text := "A: b\n c\nD: e\n\nbehind"
	b := []byte(text)
	l, _, _ := Parse(b[:14])
	if string(b) != text {
		t.Error("Parse changed its bytes, or the room behind them")
	}
	clear(b)
	if !slices.Equal(l, fields("A", "b c", "D", "e")) {
		t.Error("Parse keeps its bytes")
	}
}

func TestAnswersNewMemory(t *testing.T) {
	l, _, _ := Parse([]byte("A: b\n\n"))
	clear(l[:cap(l)])
	wantParse(t, "A: b\n\n", fields("A", "b"), 6, api.OK)
	_, l, _ = Params("m;a=b")
	clear(l[:cap(l)])
	wantParams(t, "m;a=b", "m", fields("a", "b"), api.OK)
}

func FuzzParse(f *testing.F) {
	for _, s := range []string{"", "\r\n", "A: b;\n c\r\nD:e\n\nf", "a: \x01\n\n", " a\n\n", strings.Repeat("a:\n", 21)} {
		f.Add(s)
	}
	f.Fuzz(func(t *testing.T, s string) {
		l, body, e := expectedParse(s)
		wantParse(t, s, l, body, e)
	})
}

func FuzzParams(f *testing.F) {
	for _, s := range []string{"", "Text/X ; a=\"b c\"; D= e ;f=g", "a;", "a; b=\"c\"d", strings.Repeat(";a=b", 21)} {
		f.Add(s)
	}
	f.Fuzz(func(t *testing.T, s string) {
		main, l, e := expectedParams(s)
		wantParams(t, s, main, l, e)
	})
}
