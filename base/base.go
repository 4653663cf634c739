// Package base writes bytes as letters, four letters for three bytes, and reads them back: see doc/01-base.md.
package base

import (
	"strings"

	"scrapbook/api"
)

const letters = "ABCDEFGHIJKLMNOPQRSTUVWXYZabcdefghijklmnopqrstuvwxyz0123456789+/"

const fill = '='

// Write tells the letters of b, in lines of api.Wide.
func Write(b []byte) (string, api.Errno) {
	if len(b) > api.MaxBody {
		return "", api.ErrMany
	}
	var out []byte
	for i := range fours(len(b)) * 4 {
		if i > 0 && i%api.Wide == 0 {
			out = append(out, '\r', '\n')
		}
		three := b[i/4*3 : min(i/4*3+3, len(b))]
		out = append(out, letter(three, i%4))
	}
	return string(out), api.OK
}

// Read tells the bytes that the letters of s stand for.
func Read(s string) ([]byte, api.Errno) {
	if len(s) > 2*api.MaxBody {
		return nil, api.ErrMany
	}
	sixes, fills, ok := digits(s)
	if !ok {
		return nil, api.ErrText
	}
	b, ok := cut(join(sixes), fills)
	if !ok {
		return nil, api.ErrText
	}
	if len(b) > api.MaxBody {
		return nil, api.ErrMany
	}
	return b, api.OK
}

// fours: how many fours of letters n bytes take.
func fours(n int) int { return (n + 2) / 3 }

// letter is the k-th of the four letters of up to three bytes.
func letter(three []byte, k int) byte {
	if 6*k >= 8*len(three) {
		return fill
	}
	var bits uint
	for i := range 3 {
		bits <<= 8
		if i < len(three) {
			bits |= uint(three[i])
		}
	}
	return letters[bits>>(18-6*k)&63]
}

// digits are the numbers of the letters of s, with a 0 for each fill, and how many fills there are; false: s isn't written so.
func digits(s string) (sixes []byte, fills int, ok bool) {
	for i := range len(s) {
		c := s[i]
		if space(c) {
			continue
		}
		if c == fill {
			fills++
			sixes = append(sixes, 0)
			continue
		}
		n := strings.IndexByte(letters, c)
		if n < 0 || fills > 0 {
			return nil, 0, false
		}
		sixes = append(sixes, byte(n))
	}
	if fills > 2 || len(sixes)%4 != 0 {
		return nil, 0, false
	}
	return sixes, fills, true
}

func space(c byte) bool { return c == ' ' || c == '\t' || c == '\r' || c == '\n' }

// join makes three bytes of each four numbers of six bits.
func join(sixes []byte) []byte {
	var out []byte
	for i := range len(sixes) / 4 {
		var bits uint
		for k := range 4 {
			bits = bits<<6 | uint(sixes[4*i+k])
		}
		out = append(out, byte(bits>>16), byte(bits>>8), byte(bits))
	}
	return out
}

// cut leaves out the last n bytes; false: one of them isn't 0, so that what was read is nothing that Write tells.
func cut(b []byte, n int) ([]byte, bool) {
	keep := len(b) - n
	for i := range n {
		if b[keep+i] != 0 {
			return nil, false
		}
	}
	return b[:keep], true
}
