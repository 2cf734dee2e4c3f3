// Package octets is layer 1: numbers as bytes: see shared/doc/01-octets.md.
package octets

import (
	"strings"

	"gangway/api"
)

const (
	most   = 8 // a uint64 has no more bytes
	digits = "0123456789abcdef"
)

// Put is a number in so many bytes, the greatest one first.
func Put(v uint64, n int) (string, api.Errno) {
	if err := fits(v, n); err != nil {
		return "", number(err)
	}
	b := make([]byte, n)
	for i := range n {
		b[n-1-i] = byte(v >> (8 * i))
	}
	return string(b), api.OK
}

// Get is the number that so many bytes are, from a place on, the greatest one first.
func Get(s string, at, n int) (uint64, api.Errno) {
	if err := width(n); err != nil {
		return 0, number(err)
	}
	p, err := piece(s, at, n)
	if err != nil {
		return 0, number(err)
	}
	v := uint64(0)
	for i := range n {
		v = v<<8 | uint64(p[i])
	}
	return v, api.OK
}

// Cut are so many bytes from a place on.
func Cut(s string, at, n int) (string, api.Errno) {
	p, err := piece(s, at, n)
	if err != nil {
		return "", number(err)
	}
	return strings.Clone(p), api.OK // a piece alone would keep all of s in memory
}

// Hex are bytes as two digits each, the greater half first.
func Hex(s string) string {
	b := make([]byte, 0, 2*len(s))
	for i := range len(s) {
		b = append(b, digits[s[i]>>4], digits[s[i]&15])
	}
	return string(b)
}

// Unhex are the bytes of such a text.
func Unhex(s string) (string, api.Errno) {
	b := make([]byte, 0, len(s)/2)
	for i := 0; i < len(s); i += 2 {
		c, err := pair(s, i)
		if err != nil {
			return "", number(err)
		}
		b = append(b, c)
	}
	return string(b), api.OK
}

// width is the fault, if any, of a number of n bytes.
func width(n int) error {
	if n < 1 || n > most {
		return fault{n, api.ErrArg}
	}
	return nil
}

// fits is the fault, if any, of v in n bytes.
func fits(v uint64, n int) error {
	if err := width(n); err != nil {
		return err
	}
	if v>>(8*n) != 0 { // at n of 8 nothing is left: all that is shifted is gone
		return fault{n, api.ErrArg}
	}
	return nil
}

// piece is the part of s that has n bytes from at on; it shares the memory of s.
func piece(s string, at, n int) (string, error) {
	if at < 0 || n < 0 {
		return "", fault{at, api.ErrArg}
	}
	if n > len(s)-at { // at+n might wrap round
		return "", fault{at, api.ErrOctetsShort}
	}
	return s[at : at+n], nil
}

// pair is the byte whose two digits stand in s at i.
func pair(s string, i int) (byte, error) {
	p, err := piece(s, i, 2)
	if err != nil { // to who reads a text, a digit that is missing is a wrong text, nothing short
		return 0, fault{i, api.ErrOctetsText}
	}
	high, low := strings.IndexByte(digits, p[0]), strings.IndexByte(digits, p[1])
	if high < 0 || low < 0 {
		return 0, fault{i, api.ErrOctetsText}
	}
	return byte(high<<4 | low), nil
}
