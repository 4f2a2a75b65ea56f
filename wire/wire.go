// Package wire: numbers and texts in bytes: see doc/01-wire.md.
package wire

import (
	"strings"

	"dragoman/api"
)

const (
	maxBytes  = 4     // of a number
	longBytes = 4     // of a long number, at most
	more      = 128   // in a byte of a long number: another one comes
	textBytes = 2     // that tell how many bytes a text has
	maxText   = 65535 // bytes of a text: what textBytes can tell
)

// Number by so many bytes.
func Number(n, bytes int) (string, api.Errno) {
	if bytes < 1 || bytes > maxBytes {
		return "", api.ErrKind
	}
	if n < 0 || n>>(8*bytes) != 0 {
		return "", api.ErrRange
	}
	out := make([]byte, bytes)
	for i := bytes - 1; i >= 0; i-- {
		out[i] = byte(n & 255)
		n >>= 8
	}
	return string(out), api.OK
}

// Get a number.
func Get(s string, at, bytes int) (int, api.Errno) {
	if bytes < 1 || bytes > maxBytes {
		return 0, api.ErrKind
	}
	if !isPlace(s, at) {
		return 0, api.ErrRange
	}
	// Not at+bytes: the difference can't wrap round.
	if len(s)-at < bytes {
		return 0, api.ErrShort
	}
	n := 0
	for i := 0; i < bytes; i++ {
		n = n<<8 | int(s[at+i])
	}
	return n, api.OK
}

// Long number.
func Long(n int) (string, api.Errno) {
	if n < 0 || n > api.MaxLong {
		return "", api.ErrRange
	}
	var out []byte
	for n >= more {
		out = append(out, byte(n%more+more))
		n /= more
	}
	return string(append(out, byte(n))), api.OK
}

// GetLong: a number, and how many bytes tell it.
func GetLong(s string, at int) (int, int, api.Errno) {
	if !isPlace(s, at) {
		return 0, 0, api.ErrRange
	}
	n := 0
	for i := 0; i < longBytes; i++ {
		if i == len(s)-at {
			return 0, 0, api.ErrShort
		}
		b := int(s[at+i])
		n += b % more << (7 * i)
		if b >= more {
			continue
		}
		// A last 0 tells nothing: fewer bytes would do.
		if b == 0 && i > 0 {
			return 0, 0, api.ErrForm
		}
		return n, i + 1, api.OK
	}
	return 0, 0, api.ErrForm
}

// Text as bytes.
func Text(t string) (string, api.Errno) {
	if len(t) > maxText {
		return "", api.ErrMany
	}
	head, e := Number(len(t), textBytes)
	if e != api.OK {
		return "", e
	}
	return head + t, api.OK
}

// GetText: a text, and how many bytes tell it.
func GetText(s string, at int) (string, int, api.Errno) {
	n, e := Get(s, at, textBytes)
	if e != api.OK {
		return "", 0, e
	}
	rest := s[at+textBytes:]
	if len(rest) < n {
		return "", 0, api.ErrShort
	}
	// A copy: a piece of s would hold all of s in memory.
	return strings.Clone(rest[:n]), textBytes + n, api.OK
}

// isPlace: may something be read from there on? (The end is a place too.)
func isPlace(s string, at int) bool {
	return at >= 0 && at <= len(s)
}
