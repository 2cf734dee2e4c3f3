package octets_test

import (
	"math"
	"strings"
	"testing"
	"unsafe"

	"gangway/api"
	"gangway/octets"
)

// wrongWidths are numbers of bytes that no number has.
var wrongWidths = []int{math.MinInt, -8, -1, 0, 9, 64, math.MaxInt}

// full is the greatest number of n bytes.
func full(n int) uint64 { return math.MaxUint64 >> (64 - 8*n) }

// some are numbers that go over all widths, the same ones in each run.
func some(n int) []uint64 {
	out := []uint64{0, 1, 0x7f, 0x80, 0xff, 0x100, 0x0123456789abcdef, math.MaxUint64}
	x := uint64(88172645463325252)
	for range n {
		x ^= x << 13
		x ^= x >> 7
		x ^= x << 17
		out = append(out, x>>(x%64))
	}
	return out
}

// P1.1: Put, ordinary inputs, and the document's example.
func TestPut(t *testing.T) {
	for _, x := range []struct {
		v    uint64
		n    int
		want string
	}{
		{0x1234, 4, "\x00\x00\x12\x34"},
		{0, 1, "\x00"},
		{0, 8, "\x00\x00\x00\x00\x00\x00\x00\x00"},
		{0x7f, 1, "\x7f"},
		{0x80, 2, "\x00\x80"},
		{0x010203, 3, "\x01\x02\x03"},
		{0x0180c2000000, 6, "\x01\x80\xc2\x00\x00\x00"},
		{0x0102030405060708, 8, "\x01\x02\x03\x04\x05\x06\x07\x08"},
	} {
		if s, e := octets.Put(x.v, x.n); s != x.want || e != api.OK {
			t.Errorf("Put(%#x, %d): %q, %v, want %q", x.v, x.n, s, e, x.want)
		}
	}
}

// P1.1: Put, the greatest number of each width, and the one behind it.
func TestPutEdges(t *testing.T) {
	for n := 1; n <= 8; n++ {
		want := strings.Repeat("\xff", n)
		if s, e := octets.Put(full(n), n); s != want || e != api.OK {
			t.Errorf("Put(%#x, %d): %q, %v", full(n), n, s, e)
		}
		if n == 8 {
			continue
		}
		for _, v := range []uint64{full(n) + 1, full(n) + 2, math.MaxUint64} {
			if s, e := octets.Put(v, n); s != "" || e != api.ErrArg {
				t.Errorf("Put(%#x, %d): %q, %v, want ErrArg", v, n, s, e)
			}
		}
	}
}

// P1.1: Put, wrong widths.
func TestPutWrong(t *testing.T) {
	for _, n := range wrongWidths {
		for _, v := range []uint64{0, 1, math.MaxUint64} {
			if s, e := octets.Put(v, n); s != "" || e != api.ErrArg {
				t.Errorf("Put(%#x, %d): %q, %v, want ErrArg", v, n, s, e)
			}
		}
	}
}

// P1.1: Get, ordinary inputs, and the document's example.
func TestGet(t *testing.T) {
	const s = "\x01\x02\x03\x04\x05\x06\x07\x08\xff"
	for _, x := range []struct {
		s     string
		at, n int
		want  uint64
	}{
		{"\x00\x00\x12\x34", 2, 2, 0x1234},
		{"\x00\x00\x12\x34", 0, 4, 0x1234},
		{s, 0, 1, 1},
		{s, 0, 8, 0x0102030405060708},
		{s, 1, 8, 0x02030405060708ff},
		{s, 3, 3, 0x040506},
		{s, 8, 1, 0xff},
		{strings.Repeat("\xff", 8), 0, 8, math.MaxUint64},
	} {
		if v, e := octets.Get(x.s, x.at, x.n); v != x.want || e != api.OK {
			t.Errorf("Get(%q, %d, %d): %#x, %v, want %#x", x.s, x.at, x.n, v, e, x.want)
		}
	}
}

// P1.1: Get, at the end and behind it.
func TestGetShort(t *testing.T) {
	const s = "\x01\x02\x03\x04"
	for n := 1; n <= 8; n++ {
		for _, at := range []int{len(s) - n + 1, len(s), len(s) + 1, math.MaxInt - n, math.MaxInt} {
			if at < 0 {
				continue
			}
			if v, e := octets.Get(s, at, n); v != 0 || e != api.ErrOctetsShort {
				t.Errorf("Get(%q, %d, %d): %#x, %v, want ErrOctetsShort", s, at, n, v, e)
			}
		}
		if v, e := octets.Get("", 0, n); v != 0 || e != api.ErrOctetsShort {
			t.Errorf("Get of nothing, %d: %#x, %v, want ErrOctetsShort", n, v, e)
		}
	}
}

// P1.1: Get, wrong widths and places; they are told ahead of what is short.
func TestGetWrong(t *testing.T) {
	const s = "\x01\x02\x03\x04\x05\x06\x07\x08\x09\x0a"
	for _, n := range wrongWidths {
		for _, at := range []int{0, 1, len(s), len(s) + 1, math.MaxInt} {
			if v, e := octets.Get(s, at, n); v != 0 || e != api.ErrArg {
				t.Errorf("Get(%q, %d, %d): %#x, %v, want ErrArg", s, at, n, v, e)
			}
		}
	}
	for _, at := range []int{-1, -8, math.MinInt} {
		for _, n := range []int{0, 1, 8, 9} {
			for _, s := range []string{s, ""} {
				if v, e := octets.Get(s, at, n); v != 0 || e != api.ErrArg {
					t.Errorf("Get(%q, %d, %d): %#x, %v, want ErrArg", s, at, n, v, e)
				}
			}
		}
	}
}

// P1.1: Cut, each piece of a text.
func TestCut(t *testing.T) {
	const s = "\x00ab\xff\xfe cd\x80 and what is behind it"
	for at := 0; at <= len(s); at++ {
		for n := 0; n <= len(s)-at; n++ {
			if p, e := octets.Cut(s, at, n); p != s[at:at+n] || e != api.OK {
				t.Errorf("Cut(%q, %d, %d): %q, %v", s, at, n, p, e)
			}
		}
	}
	if p, e := octets.Cut("", 0, 0); p != "" || e != api.OK {
		t.Errorf("Cut of nothing: %q, %v", p, e)
	}
}

// P1.1: Cut, behind the end.
func TestCutShort(t *testing.T) {
	const s = "\x01\x02\x03\x04"
	for _, x := range [][2]int{{0, 5}, {1, 4}, {4, 1}, {5, 0}, {5, 1}, {0, math.MaxInt}, {1, math.MaxInt}, {4, math.MaxInt}, {math.MaxInt, 0}, {math.MaxInt, 1}, {math.MaxInt, math.MaxInt}} {
		if p, e := octets.Cut(s, x[0], x[1]); p != "" || e != api.ErrOctetsShort {
			t.Errorf("Cut(%q, %d, %d): %q, %v, want ErrOctetsShort", s, x[0], x[1], p, e)
		}
	}
}

// P1.1: Cut, places and counts below 0; they are told ahead of what is short.
func TestCutWrong(t *testing.T) {
	const s = "\x01\x02\x03\x04"
	for _, x := range [][2]int{{-1, 0}, {-1, 1}, {-1, 9}, {0, -1}, {4, -1}, {5, -1}, {-1, -1}, {math.MinInt, 1}, {0, math.MinInt}, {math.MinInt, math.MaxInt}, {math.MaxInt, math.MinInt}} {
		if p, e := octets.Cut(s, x[0], x[1]); p != "" || e != api.ErrArg {
			t.Errorf("Cut(%q, %d, %d): %q, %v, want ErrArg", s, x[0], x[1], p, e)
		}
	}
}

// R4: what is cut is new memory.
func TestCutIsNew(t *testing.T) {
	s := strings.Repeat("x", 64)
	p, _ := octets.Cut(s, 0, 64)
	if unsafe.StringData(p) == unsafe.StringData(s) {
		t.Error("what is cut shares its memory with what it was cut from")
	}
}

// P1.2: Hex, ordinary inputs, and the document's example.
func TestHex(t *testing.T) {
	for s, want := range map[string]string{
		"":                  "",
		"\x00\x00\x12\x34":  "00001234",
		"\x0f\xf0":          "0ff0",
		"\xab\xcd\xef\x09":  "abcdef09",
		"z\n\xc3\xa4":       "7a0ac3a4",
		"\xff\xff\xff\xff0": "ffffffff30",
	} {
		if h := octets.Hex(s); h != want {
			t.Errorf("Hex(%q): %q, want %q", s, h, want)
		}
	}
}

// P1.2: each two bytes as a text are the bytes whose Hex they are, or wrong.
func TestUnhexEachPair(t *testing.T) {
	const digits = "0123456789abcdef"
	for a := range 256 {
		for b := range 256 {
			s := string([]byte{byte(a), byte(b)})
			want, wantE := "", api.ErrOctetsText
			high, low := strings.IndexByte(digits, byte(a)), strings.IndexByte(digits, byte(b))
			if high >= 0 && low >= 0 {
				want, wantE = string([]byte{byte(16*high + low)}), api.OK
			}
			if p, e := octets.Unhex(s); p != want || e != wantE {
				t.Errorf("Unhex(%q): %q, %v, want %q, %v", s, p, e, want, wantE)
			}
		}
	}
}

// P1.2: Unhex, wrong texts: an odd number of digits, what is no digit, capital ones.
func TestUnhexWrong(t *testing.T) {
	for _, s := range []string{"0", "f", "012", "0123456", "0g", "g0", "00g0", "000g", "0000 ", " 00", "0A", "A0", "AB", "00ff0F", "0x12", "-1", "00\n", "00\x00", "\xff\xff", "ä", "1\uff12"} {
		if p, e := octets.Unhex(s); p != "" || e != api.ErrOctetsText {
			t.Errorf("Unhex(%q): %q, %v, want ErrOctetsText", s, p, e)
		}
	}
}

// P1.2: Unhex of nothing is nothing.
func TestUnhexNothing(t *testing.T) {
	if p, e := octets.Unhex(""); p != "" || e != api.OK {
		t.Errorf("%q, %v", p, e)
	}
}

// P1.3: what is put is got as it was, wherever it stands.
func TestPutThenGet(t *testing.T) {
	for n := 1; n <= 8; n++ {
		for _, v := range some(2000) {
			v &= full(n)
			s, e := octets.Put(v, n)
			if len(s) != n || e != api.OK {
				t.Fatalf("Put(%#x, %d): %q, %v", v, n, s, e)
			}
			if w, e := octets.Get(s, 0, n); w != v || e != api.OK {
				t.Errorf("%#x in %d bytes: %#x, %v", v, n, w, e)
			}
			if w, e := octets.Get("\xff"+s+"\xff", 1, n); w != v || e != api.OK {
				t.Errorf("%#x in %d bytes, amid others: %#x, %v", v, n, w, e)
			}
		}
	}
}

// P1.3: what is got, put, is the bytes.
func TestGetThenPut(t *testing.T) {
	s := ""
	for _, v := range some(200) {
		p, _ := octets.Put(v, 8)
		s += p
	}
	for n := 1; n <= 8; n++ {
		for at := 0; at+n <= len(s); at++ {
			v, e := octets.Get(s, at, n)
			if e != api.OK {
				t.Fatalf("Get at %d, %d: %v", at, n, e)
			}
			p, e := octets.Put(v, n)
			if c, _ := octets.Cut(s, at, n); p != s[at:at+n] || p != c || e != api.OK {
				t.Errorf("at %d, %d: %q, %v", at, n, p, e)
			}
		}
	}
}

// P1.3: what is written by Hex is read by Unhex.
func TestHexThenUnhex(t *testing.T) {
	all := ""
	for c := range 256 {
		all += string([]byte{byte(c)})
	}
	for at := range len(all) {
		for _, s := range []string{all[at : at+1], all[at:], all[:at]} {
			h := octets.Hex(s)
			if p, e := octets.Unhex(h); len(h) != 2*len(s) || p != s || e != api.OK {
				t.Errorf("%q: %q, %q, %v", s, h, p, e)
			}
		}
	}
}
