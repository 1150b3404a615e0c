// Package nums is layer 1: numbers of a variable length, and lists of texts.
package nums

import (
	"math/bits"
	"strings"

	"stemma/api"
)

// maxFollowing is the number of bytes that follow the first one of MaxNumber's encoding.
const maxFollowing = 5

// Put returns the encoding of n; an empty text if n is out of range.
func Put(n int) string {
	if n < 0 || n > api.MaxNumber {
		return ""
	}
	k := following(n)
	b := make([]byte, k+1)
	for i := range b {
		b[i] = byte(n >> (8 * (k - i)))
	}
	b[0] |= ^(byte(0xff) >> k)
	return string(b)
}

// following returns how many bytes follow the first one of n's encoding.
func following(n int) int {
	k := 0
	for n >= 1<<(7*(k+1)) {
		k++
	}
	return k
}

// Get returns the number at the beginning of s, and how many bytes it takes.
func Get(s string) (int, int, api.Errno) {
	if s == "" {
		return 0, 0, api.ErrShort
	}
	k := bits.LeadingZeros8(^s[0])
	if k > maxFollowing {
		return 0, 0, api.ErrForm
	}
	if len(s) <= k {
		return 0, 0, api.ErrShort
	}
	n := int(s[0]) & (0x7f >> k)
	for i := range k {
		n = n<<8 | int(s[1+i])
	}
	// A number has one encoding only: else the order of encodings wouldn't be that of the numbers.
	if n > api.MaxNumber || following(n) != k {
		return 0, 0, api.ErrForm
	}
	return n, k + 1, api.OK
}

// Join returns the texts of l, each behind its length.
func Join(l ...string) string {
	var b strings.Builder
	for _, s := range l {
		b.WriteString(Put(len(s)))
		b.WriteString(s)
	}
	return b.String()
}

// Split returns the texts that were joined.
func Split(s string) ([]string, api.Errno) {
	var l []string
	for s != "" {
		text, n, err := Next(s)
		if err != api.OK {
			return nil, err
		}
		l = append(l, text)
		s = s[n:]
	}
	return l, api.OK
}

// Next returns the text at the beginning of s, and how many bytes it takes with its length.
func Next(s string) (string, int, api.Errno) {
	size, from, err := Get(s)
	if err != api.OK {
		return "", 0, err
	}
	if size > api.MaxBody {
		return "", 0, api.ErrLong
	}
	if size > len(s)-from {
		return "", 0, api.ErrShort
	}
	return s[from : from+size], from + size, api.OK
}
