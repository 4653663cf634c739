package quote

import (
	"bytes"
	"encoding/hex"
	"fmt"
	"io"
	"mime/quotedprintable"
	"regexp"
	"strings"
	"testing"

	"scrapbook/api"
)

// pattern: n bytes in which all values come, and neighbours differ.
func pattern(n int) []byte {
	b := make([]byte, n)
	for i := range b {
		b[i] = byte(i*37 + i>>8*11 + 5)
	}
	return b
}

var escape = regexp.MustCompile(`=[0-9A-Fa-f]{2}`)

// expected: what Read must answer, line by line, by other means.
func expected(s string) ([]byte, api.Errno) {
	if len(s) > 4*api.MaxBody {
		return nil, api.ErrMany
	}
	out := ""
	lines := strings.Split(s, "\n")
	for i, line := range lines {
		end := "\r\n"
		if i == len(lines)-1 {
			end = ""
		}
		for line != "" && strings.ContainsRune(" \t\r", rune(line[len(line)-1])) {
			line = line[:len(line)-1]
		}
		if strings.HasSuffix(line, "=") {
			line, end = line[:len(line)-1], ""
		}
		if lonely(line) {
			return nil, api.ErrText
		}
		out += escape.ReplaceAllStringFunc(line, func(x string) string {
			b, _ := hex.DecodeString(x[1:])
			return string(b)
		}) + end
		if len(out) > api.MaxBody {
			return nil, api.ErrMany
		}
	}
	return []byte(out), api.OK
}

// lonely: has line a mark without two digits? (A line feed in place of what is read keeps its neighbours apart.)
func lonely(line string) bool {
	return strings.Contains(escape.ReplaceAllString(line, "\n"), "=")
}

func wantRead(t *testing.T, s string, want []byte, wantErr api.Errno) {
	t.Helper()
	b, e := Read(s)
	if e != wantErr || !bytes.Equal(b, want) {
		t.Fatalf("Read(%.100q) (%d bytes): %.100q, %d; want %.100q, %d", s, len(s), b, e, want, wantErr)
	}
	if e != api.OK && b != nil {
		t.Fatalf("Read(%.100q): error %d, and a list", s, e)
	}
}

func wantWrite(t *testing.T, b []byte, want string, wantErr api.Errno) {
	t.Helper()
	if s, e := Write(b); s != want || e != wantErr {
		t.Fatalf("Write of %d bytes: %.100q, %d; want %.100q, %d", len(b), s, e, want, wantErr)
	}
}

func TestWriteOfEachByte(t *testing.T) {
	for c := range 256 {
		want := fmt.Sprintf("=%02X", c)
		if c > 32 && c < 127 && c != '=' {
			want = string(rune(c))
		}
		wantWrite(t, []byte{byte(c)}, want, api.OK)
		wantRead(t, want, []byte{byte(c)}, api.OK)
		wantRead(t, fmt.Sprintf("=%02x", c), []byte{byte(c)}, api.OK)
	}
	wantWrite(t, nil, "", api.OK)
	wantWrite(t, []byte("a=b c\r\n\x00!~\x7f\x80"), "a=3Db=20c=0D=0A=00!~=7F=80", api.OK)
}

func TestWriteBreaksAheadOfWhatIsTooWide(t *testing.T) {
	line := strings.Repeat("x", 75)
	wantWrite(t, []byte(line), line, api.OK)
	wantWrite(t, []byte(line+"y"), line+"=\r\ny", api.OK)
	wantWrite(t, []byte(line+" "), line+"=\r\n=20", api.OK)
	wantWrite(t, []byte(line[:74]+" "), line[:74]+"=\r\n=20", api.OK)
	wantWrite(t, []byte(line[:73]+" "), line[:73]+"=\r\n=20", api.OK)
	wantWrite(t, []byte(line[:73]+" y"), line[:73]+"=\r\n=20y", api.OK)
	wantWrite(t, []byte(line[:72]+" "), line[:72]+"=20", api.OK)
	wantWrite(t, []byte(line[:72]+" y"), line[:72]+"=20=\r\ny", api.OK)
	wantWrite(t, []byte(line+line), line+"=\r\n"+line, api.OK)
	wantWrite(t, []byte(line+line+"="), line+"=\r\n"+line+"=\r\n=3D", api.OK)
	wantWrite(t, make([]byte, 25), strings.Repeat("=00", 25), api.OK)
	wantWrite(t, make([]byte, 26), strings.Repeat("=00", 25)+"=\r\n=00", api.OK)
}

func TestWriteLimit(t *testing.T) {
	for _, fill := range []string{"x", "\x00"} {
		full := bytes.Repeat([]byte(fill), api.MaxBody)
		s, e := Write(full)
		if e != api.OK {
			t.Fatalf("Write of the most: error %d", e)
		}
		wantRead(t, s, full, api.OK)
		wantWrite(t, append(full, fill...), "", api.ErrMany)
		wantWrite(t, append(full, full...), "", api.ErrMany)
	}
}

func TestReadOrdinary(t *testing.T) {
	for _, c := range []struct{ text, bytes string }{
		{"", ""}, {"a b", "a b"}, {"a=3Db", "a=b"}, {"=3d=3D=aF=Af", "==\xaf\xaf"},
		{"=3D3D", "=3D"}, {"=3D=", "="}, {"=0D=0A", "\r\n"}, {"\x00\x7f\x80\xff", "\x00\x7f\x80\xff"},
		{"a\nb", "a\r\nb"}, {"a\r\nb", "a\r\nb"}, {"a\r\n", "a\r\n"}, {"\n", "\r\n"}, {"\n\n", "\r\n\r\n"},
		{"a\rb", "a\rb"}, {" a\tb", " a\tb"}, {"\r", ""}, {"\r\r\n", "\r\n"},
		{"a \t\r", "a"}, {"a \t \r\r\nb \t", "a\r\nb"}, {" \t\r", ""}, {" \n", "\r\n"},
		{"a=20", "a "}, {"a=20 ", "a "}, {"a=20\n", "a \r\n"}, {"a=0D \n", "a\r\r\n"},
		{"a=\nb", "ab"}, {"a=\r\nb", "ab"}, {"a= \t\r\nb", "ab"}, {"a=", "a"}, {"a= ", "a"}, {"=", ""}, {"=\n", ""}, {"=\n=\n=", ""},
		{"a =\nb", "a b"}, {"a\t\r=\nb", "a\t\rb"}, {"a=3D=\nb", "a=b"}, {"=\n\n", "\r\n"},
	} {
		wantRead(t, c.text, []byte(c.bytes), api.OK)
	}
}

func TestReadWrongTexts(t *testing.T) {
	for _, s := range []string{
		"=4", "=4 ", "=4\n1", "a=0\n", "=G0", "=0G", "=g0", "=0g", "=:0", "=0/", "=@0", "=0`", "==", "===", "a==\n", "== \t",
		"=4=", "=4=\n1", "=4=31", "==31", "= 41", "=4 1", "=\t\t.", "=\rb", "=x\n", "= x", "=-1", "=+1",
	} {
		wantRead(t, s, nil, api.ErrText)
	}
}

func TestReadKnowsNoOtherDigit(t *testing.T) {
	for c := range 256 {
		for _, s := range []string{"=" + string([]byte{byte(c)}) + "1.", "=1" + string([]byte{byte(c)}) + "."} {
			b, e := expected(s)
			wantRead(t, s, b, e)
		}
	}
}

func TestReadLimitOfTheText(t *testing.T) {
	wantRead(t, strings.Repeat(" ", 4*api.MaxBody), nil, api.OK)
	wantRead(t, strings.Repeat(" ", 4*api.MaxBody+1), nil, api.ErrMany)
	wantRead(t, strings.Repeat("=\r\n", 4*api.MaxBody/3), nil, api.OK)
	wantRead(t, strings.Repeat("=", 4*api.MaxBody), nil, api.ErrText)
	wantRead(t, strings.Repeat("=", 4*api.MaxBody+1), nil, api.ErrMany)
}

func TestReadLimitOfTheBytes(t *testing.T) {
	full := strings.Repeat("x", api.MaxBody)
	wantRead(t, full, []byte(full), api.OK)
	wantRead(t, full+" \t\r", []byte(full), api.OK)
	wantRead(t, full+"=\n", []byte(full), api.OK)
	wantRead(t, full+"=\n=\n", []byte(full), api.OK)
	wantRead(t, full+"x", nil, api.ErrMany)
	wantRead(t, full+"=\nx", nil, api.ErrMany)
	wantRead(t, full+"\n", nil, api.ErrMany)
	wantRead(t, full[2:]+"\n", []byte(full[2:]+"\r\n"), api.OK)
	wantRead(t, full[1:]+"\n", nil, api.ErrMany)
	wantRead(t, strings.Repeat("\n", api.MaxBody/2), []byte(strings.Repeat("\r\n", api.MaxBody/2)), api.OK)
	wantRead(t, strings.Repeat("\n", api.MaxBody/2+1), nil, api.ErrMany)
}

func TestReadTellsTheFirstError(t *testing.T) {
	full := strings.Repeat("x", api.MaxBody)
	wantRead(t, full+"x=G", nil, api.ErrText)
	wantRead(t, full+"x\n=G", nil, api.ErrMany)
	wantRead(t, full+"x=\n=G", nil, api.ErrMany)
	wantRead(t, full+"=\n=G", nil, api.ErrText)
	wantRead(t, full[1:]+"\n=G", nil, api.ErrMany)
	wantRead(t, full[2:]+"\n=G", nil, api.ErrText)
	wantRead(t, "=G\n"+full+"x", nil, api.ErrText)
}

func TestReadOfAllShortTexts(t *testing.T) {
	const few = "4fG= \r\n"
	var try func(s string)
	try = func(s string) {
		b, e := expected(s)
		wantRead(t, s, b, e)
		for i := range len(few) {
			if len(s) < 6 {
				try(s + few[i:i+1])
			}
		}
	}
	try("")
}

func TestReadOfWriteIsTheBytes(t *testing.T) {
	for n := range api.MaxBody + 1 {
		b := pattern(n)
		s, e := Write(b)
		if e != api.OK {
			t.Fatalf("Write of %d bytes: error %d", n, e)
		}
		for _, line := range strings.Split(s, "\r\n") {
			if len(line) > api.Wide || strings.ContainsAny(line, "\r\n \t") {
				t.Fatalf("Write of %d bytes: line %q", n, line)
			}
		}
		wantRead(t, s, b, api.OK)
		other, err := io.ReadAll(quotedprintable.NewReader(strings.NewReader(s)))
		if err != nil || !bytes.Equal(other, b) {
			t.Fatalf("Write of %d bytes: the library reads something else (%v)", n, err)
		}
	}
}

func TestWriteOnlyReadsWhatIsHandedIn(t *testing.T) {
	for n := range 8 {
		room := pattern(12)
		want, _ := Write(pattern(n))
		s, _ := Write(room[:n])
		if !bytes.Equal(room, pattern(12)) {
			t.Fatalf("Write of %d bytes changed them, or the room behind", n)
		}
		clear(room)
		if s != want {
			t.Fatalf("Write of %d bytes keeps them", n)
		}
	}
}

func TestReadAnswersNewMemory(t *testing.T) {
	a, _ := Read("Man=20")
	clear(a[:cap(a)])
	wantRead(t, "Man=20", []byte("Man "), api.OK)
}

func FuzzRead(f *testing.F) {
	for _, s := range []string{"", "a=3D", "a=\r\nb", "x \t\n", "==", "=4"} {
		f.Add(s)
	}
	f.Fuzz(func(t *testing.T, s string) {
		b, e := expected(s)
		wantRead(t, s, b, e)
	})
}
