package base

import (
	"bytes"
	"encoding/base64"
	"strings"
	"testing"

	"scrapbook/api"
)

// pattern: n bytes in which all values come, and neighbours differ.
func pattern(n int) []byte {
	b := make([]byte, n)
	for i := range b {
		b[i] = byte(i*37 + i>>8*11 + 5)
	}
	return b
}

// inLines: the letters by the library, broken by hand.
func inLines(b []byte) string {
	s := base64.StdEncoding.EncodeToString(b)
	var lines []string
	for len(s) > api.Wide {
		lines = append(lines, s[:api.Wide])
		s = s[api.Wide:]
	}
	return strings.Join(append(lines, s), "\r\n")
}

// expected: what Read must answer, by the library.
func expected(s string) ([]byte, api.Errno) {
	if len(s) > 2*api.MaxBody {
		return nil, api.ErrMany
	}
	b, err := base64.StdEncoding.Strict().DecodeString(strings.NewReplacer(" ", "", "\t", "", "\r", "", "\n", "").Replace(s))
	if err != nil {
		return nil, api.ErrText
	}
	if len(b) > api.MaxBody {
		return nil, api.ErrMany
	}
	return b, api.OK
}

func wantRead(t *testing.T, s string, want []byte, wantErr api.Errno) {
	t.Helper()
	b, e := Read(s)
	if e != wantErr || !bytes.Equal(b, want) {
		t.Fatalf("Read(%.100q) (%d bytes): %.100q, %d; want %.100q, %d", s, len(s), b, e, want, wantErr)
	}
	if e != api.OK && b != nil {
		t.Fatalf("Read(%.100q): error %d, and a list", s, e)
	}
}

func wantWrite(t *testing.T, b []byte, want string, wantErr api.Errno) {
	t.Helper()
	if s, e := Write(b); s != want || e != wantErr {
		t.Fatalf("Write of %d bytes: %.100q, %d; want %.100q, %d", len(b), s, e, want, wantErr)
	}
}

func TestWriteOrdinary(t *testing.T) {
	for _, c := range []struct{ bytes, text string }{
		{"", ""}, {"M", "TQ=="}, {"Ma", "TWE="}, {"Man", "TWFu"}, {"foobar", "Zm9vYmFy"},
		{"\x00", "AA=="}, {"\x00\x00", "AAA="}, {"\x00\x00\x00", "AAAA"}, {"\xff", "/w=="}, {"\xff\xff", "//8="},
		{"\xfb\xef\xbe", "++++"}, {"\xff\xff\xff", "////"},
	} {
		wantWrite(t, []byte(c.bytes), c.text, api.OK)
		wantRead(t, c.text, []byte(c.bytes), api.OK)
	}
	wantWrite(t, nil, "", api.OK)
}

func TestWriteUsesAllLettersInOrder(t *testing.T) {
	var b []byte
	for i := 0; i < 64; i += 4 {
		n := i<<18 | (i+1)<<12 | (i+2)<<6 | i + 3
		b = append(b, byte(n>>16), byte(n>>8), byte(n))
	}
	wantWrite(t, b, "ABCDEFGHIJKLMNOPQRSTUVWXYZabcdefghijklmnopqrstuvwxyz0123456789+/", api.OK)
}

func TestWriteBreaksOnlyIfMoreCome(t *testing.T) {
	line := strings.Repeat("A", 76)
	wantWrite(t, make([]byte, 56), line[:75]+"=", api.OK)
	wantWrite(t, make([]byte, 57), line, api.OK)
	wantWrite(t, make([]byte, 58), line+"\r\nAA==", api.OK)
	wantWrite(t, make([]byte, 114), line+"\r\n"+line, api.OK)
	wantWrite(t, make([]byte, 115), line+"\r\n"+line+"\r\nAA==", api.OK)
}

func TestWriteLimit(t *testing.T) {
	full := pattern(api.MaxBody)
	wantWrite(t, full, inLines(full), api.OK)
	wantWrite(t, pattern(api.MaxBody+1), "", api.ErrMany)
	wantWrite(t, pattern(3*api.MaxBody), "", api.ErrMany)
}

func TestReadLeavesBlanksOut(t *testing.T) {
	for _, s := range []string{" TWE=", "TWE= ", "T W\tE\r=\n", "\r\n\r\nTWE=", "TW\nE=", "TWE\r\n="} {
		wantRead(t, s, []byte("Ma"), api.OK)
	}
	wantRead(t, "TQ= \t\r\n=", []byte("M"), api.OK)
	wantRead(t, " \t\r\n", nil, api.OK)
	wantRead(t, "", nil, api.OK)
}

func TestReadWrongTexts(t *testing.T) {
	for _, s := range []string{
		"T", "TW", "TWF", "TWFuT", "TWFuTQ", // no fours
		"=", "==", "TQ=", "TWE==", "TWFu=", "TWFu==", // no fours with fills
		"T===", "====", "TWFu====", "=TWFu===", // more than two fills
		"TW=u", "=WFu", "T=Fu", "TQ=A=AAA", "TQ==TQ==", "TWE=TWFu", "TQ==AA", // a letter behind a fill
		"TR==", "TX==", "Tf==", "TWF=", "TWG=", "TWH=", "TWFuTWF=", // bits that aren't 0
	} {
		wantRead(t, s, nil, api.ErrText)
	}
}

func TestReadKnowsNoOtherByte(t *testing.T) {
	known := letters + "= \t\r\n"
	for c := range 256 {
		s := "TWF" + string([]byte{byte(c)})
		if strings.IndexByte(known, byte(c)) < 0 {
			wantRead(t, s, nil, api.ErrText)
			wantRead(t, s+"u", nil, api.ErrText)
			continue
		}
		b, e := expected(s)
		wantRead(t, s, b, e)
	}
}

func TestReadFillsAskForZeroBits(t *testing.T) {
	for i := range 64 {
		for _, s := range []string{"T" + letters[i:i+1] + "==", "TW" + letters[i:i+1] + "="} {
			b, e := expected(s)
			wantRead(t, s, b, e)
		}
	}
}

func TestReadLimits(t *testing.T) {
	full := pattern(api.MaxBody)
	plain := base64.StdEncoding.EncodeToString(full)
	wantRead(t, plain, full, api.OK)
	wantRead(t, plain+strings.Repeat(" ", 2*api.MaxBody-len(plain)), full, api.OK)
	wantRead(t, plain+strings.Repeat(" ", 2*api.MaxBody-len(plain)+1), nil, api.ErrMany)
	wantRead(t, strings.Repeat(" ", 2*api.MaxBody), nil, api.OK)
	wantRead(t, strings.Repeat(" ", 2*api.MaxBody+1), nil, api.ErrMany)
	for n := range 3 {
		wantRead(t, base64.StdEncoding.EncodeToString(pattern(api.MaxBody+1+n)), nil, api.ErrMany)
	}
	wantRead(t, strings.Repeat("A", 2*api.MaxBody), nil, api.ErrMany)
}

func TestReadTellsTheFirstError(t *testing.T) {
	wantRead(t, strings.Repeat("-", 2*api.MaxBody), nil, api.ErrText)
	wantRead(t, strings.Repeat("-", 2*api.MaxBody+1), nil, api.ErrMany)
	wantRead(t, strings.Repeat("A", 2*api.MaxBody-1), nil, api.ErrText)
	wantRead(t, strings.Repeat("A", 2*api.MaxBody-2)+"B=", nil, api.ErrText)
	wantRead(t, strings.Repeat("A", 2*api.MaxBody-1)+"-", nil, api.ErrText)
}

func TestReadOfAllShortTexts(t *testing.T) {
	const few = "AQ/= \n-"
	var try func(s string)
	try = func(s string) {
		b, e := expected(s)
		wantRead(t, s, b, e)
		for i := range len(few) {
			if len(s) < 6 {
				try(s + few[i:i+1])
			}
		}
	}
	try("")
}

func TestReadOfWriteIsTheBytes(t *testing.T) {
	for n := range api.MaxBody + 1 {
		b := pattern(n)
		s, e := Write(b)
		if e != api.OK || s != inLines(b) {
			t.Fatalf("Write of %d bytes: error %d, or other letters", n, e)
		}
		for _, line := range strings.Split(s, "\r\n") {
			if len(line) > api.Wide || strings.ContainsAny(line, "\r\n") {
				t.Fatalf("Write of %d bytes: line %q", n, line)
			}
		}
		wantRead(t, s, b, api.OK)
	}
}

func TestWriteOnlyReadsWhatIsHandedIn(t *testing.T) {
	for n := range 8 {
		room := pattern(12)
		s, _ := Write(room[:n])
		if !bytes.Equal(room, pattern(12)) {
			t.Fatalf("Write of %d bytes changed them, or the room behind", n)
		}
		clear(room)
		if s != inLines(pattern(n)) {
			t.Fatalf("Write of %d bytes keeps them", n)
		}
	}
}

func TestReadAnswersNewMemory(t *testing.T) {
	a, _ := Read("TWFu")
	clear(a[:cap(a)])
	wantRead(t, "TWFu", []byte("Man"), api.OK)
}

func FuzzRead(f *testing.F) {
	for _, s := range []string{"", "TWE=", "TW\r\nFu", "T===", "TR==", "TQ==TQ=="} {
		f.Add(s)
	}
	f.Fuzz(func(t *testing.T, s string) {
		b, e := expected(s)
		wantRead(t, s, b, e)
	})
}
