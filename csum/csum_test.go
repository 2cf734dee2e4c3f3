package csum_test

import (
	"math"
	"slices"
	"strings"
	"testing"

	"gangway/csum"
)

// source makes numbers that look like chance, the same ones in each run.
func source() func() uint64 {
	x := uint64(88172645463325252)
	return func() uint64 {
		x ^= x << 13
		x ^= x >> 7
		x ^= x << 17
		return x
	}
}

// texts are some bytes of each length to n, and such as are alike all over.
func texts(n int) []string {
	next := source()
	out := []string{}
	for length := range n + 1 {
		b := make([]byte, length)
		for i := range b {
			b[i] = byte(next() >> 20)
		}
		out = append(out, string(b), strings.Repeat("\x00", length), strings.Repeat("\xff", length))
	}
	return out
}

// plain is the sum of the words of s, not folded.
func plain(s string) int {
	n := 0
	for i := 0; i < len(s); i += 2 {
		n += 256 * int(s[i])
		if i+1 < len(s) {
			n += int(s[i+1])
		}
	}
	return n
}

// folded is what folding ends at, without doing it: it leaves a number as it is modulo 65535, and only of 0 makes 0.
func folded(n int) int {
	if n == 0 {
		return 0
	}
	return (n-1)%65535 + 1
}

// word is v as two bytes.
func word(v int) string { return string([]byte{byte(v >> 8), byte(v)}) }

// P3.1: Of and Right, ordinary inputs, the document's examples, and the edges: what is folded once, twice, three times, to 1 and to 65535.
func TestOf(t *testing.T) {
	many := strings.Repeat("\xff\xff", 65537) // 2^32 - 1
	for _, x := range []struct {
		s     string
		want  int
		right bool
	}{
		{"", 65535, false},
		{"\x00", 65535, false},
		{"\x00\x00", 65535, false},
		{"\x00\x00\x00", 65535, false},
		{"\x01", 65535 - 0x0100, false},
		{"\x00\x01", 65534, false},
		{"\x01\x00", 65535 - 0x0100, false},
		{"\xff", 0x00ff, false},
		{"\xff\xff", 0, true},
		{"\xff\xfe", 1, false},
		{"\xff\x00\xff", 65535 - 0xfe01, false},
		{"\xff\x00\x00\xff", 0, true},
		{"\x00\x01\xf2\x03", 0x0dfb, false},
		{"\x12\x34\xed\xcb", 0, true},
		{"\x12\x34\xed\xcc", 65534, false},
		{"\x12\x34\xed\xca", 1, false},
		{"\xfe\xff\x01", 0, true},
		{"\xfe\xff\x01\x00", 0, true},
		{"\x80\x00\x80\x00", 65534, false},                // 65536: folded once, to 1
		{"\xff\xff\x00\x01", 65534, false},                // 65536, too
		{"\xff\xff\xff\xff", 0, true},                     // 0x1fffe: once, to 65535
		{"\xff\xff\xff\xff\x00\x01", 65534, false},        // 0x1ffff: 65536: 1
		{"\xff\xff\xff\xfe\x00\x02", 65534, false},        // the same one
		{many, 0, true},                                   // 0xffffffff: 0x1fffe: 65535
		{many + "\xff\xff\xff\xff\x00\x01", 65534, false}, // 0x10001fffe: 0x1ffff: 65536: 1
		{strings.Repeat("\xff", 1000), 0, true},
		{strings.Repeat("\xff", 1001), 0x00ff, false},
		{strings.Repeat("\x00", 1000), 65535, false},
		{strings.Repeat("\x00\x01", 65535), 0, true},
		{strings.Repeat("\x00\x01", 65536), 65534, false},
		{"\x45\x00\x00\x73\x00\x00\x40\x00\x40\x11\x00\x00\xc0\xa8\x00\x01\xc0\xa8\x00\xc7", 0xb861, false},
		{"\x45\x00\x00\x73\x00\x00\x40\x00\x40\x11\xb8\x61\xc0\xa8\x00\x01\xc0\xa8\x00\xc7", 0, true},
	} {
		if n := csum.Of(x.s); n != x.want {
			t.Errorf("Of(%.40q, %d bytes): %#x, want %#x", x.s, len(x.s), n, x.want)
		}
		if r := csum.Right(x.s); r != x.right {
			t.Errorf("Right(%.40q, %d bytes): %v", x.s, len(x.s), r)
		}
	}
}

// P3.1: Of and Right go by the sum of the words, whatever the bytes are.
func TestOfAny(t *testing.T) {
	for _, s := range texts(300) {
		want := folded(plain(s))
		if n := csum.Of(s); n != 65535-want {
			t.Errorf("Of(%x): %#x, want %#x", s, n, 65535-want)
		}
		if r := csum.Right(s); r != (want == 65535) {
			t.Errorf("Right(%x): %v", s, r)
		}
	}
}

// P3.1: Of and Right, of each sum of two words there is.
func TestOfEachSum(t *testing.T) {
	for n := range 2*65535 + 1 {
		s := word(n/2) + word(n-n/2)
		if got, want := csum.Of(s), 65535-folded(n); got != want {
			t.Fatalf("Of(%x): %#x, want %#x", s, got, want)
		}
		if r := csum.Right(s); r != (n == 65535 || n == 2*65535) {
			t.Fatalf("Right(%x): %v", s, r)
		}
	}
}

// P3.1: parts are as one text, however it is cut: no parts, empty ones, and such of odd numbers of bytes that others follow.
func TestParts(t *testing.T) {
	if n := csum.Of(); n != 65535 {
		t.Errorf("Of(): %#x", n)
	}
	if csum.Right() {
		t.Error("Right(): true")
	}
	if n := csum.Of("", "", ""); n != 65535 || csum.Right("", "", "") {
		t.Errorf("empty parts: %#x", n)
	}
	if n := csum.Of("\x01", "\x02", "\x03"); n != 65535-0x0402 {
		t.Errorf("parts of one byte: %#x", n)
	}
	if n := csum.Of("\x01", "", "\x02\x03", "", "\x04\x05\x06"); n != 65535-0x090c {
		t.Errorf("odd parts with empty ones between: %#x", n)
	}
	if !csum.Right("\xff", "\xff") || csum.Right("\xff", "\x00\xff") || !csum.Right("\xfe", "\xff\x01") {
		t.Error("Right of odd parts")
	}
	for _, s := range texts(24) {
		want, right := csum.Of(s), csum.Right(s)
		single := []string{}
		for i := range len(s) {
			single = append(single, s[i:i+1])
		}
		for i := range len(s) + 1 {
			for j := range i + 1 {
				if n := csum.Of(s[:j], s[j:i], s[i:]); n != want {
					t.Errorf("Of(%x, %x, %x): %#x, want %#x", s[:j], s[j:i], s[i:], n, want)
				}
				if r := csum.Right(s[:j], s[j:i], s[i:]); r != right {
					t.Errorf("Right(%x, %x, %x): %v", s[:j], s[j:i], s[i:], r)
				}
			}
		}
		if n := csum.Of(single...); n != want {
			t.Errorf("Of, one part a byte, of %x: %#x, want %#x", s, n, want)
		}
	}
}

// R4: parts that are handed in as a list, and the room behind them, stay as they are.
func TestPartsStay(t *testing.T) {
	list := []string{"\x01", "\x02\x03", "", "\x04", "behind", "it"}
	was := slices.Clone(list)
	csum.Of(list[:4]...)
	csum.Right(list[:4]...)
	if !slices.Equal(list, was) {
		t.Errorf("%q, was %q", list, was)
	}
}

// P3.2: Patch, ordinary inputs, the edges of its range, and arguments outside of it.
func TestPatch(t *testing.T) {
	for _, x := range []struct{ sum, old, now, want int }{
		{0x220d, 0xf203, 0xf203, 0x220d},
		{0x220d, 0x0001, 0x0002, 0x220c},
		{0x0dfb, 0x0001, 0x0101, 0x0cfb},
		{0xb861, 0x4011, 0x3f11, 0xb961},
		{0, 0, 0, 65535 - 65535}, // 65535 + 65535: folded once, to 65535
		{0, 0, 1, 65534},         // 0x1ffff: folded twice, to 1
		{0, 0, 2, 65533},
		{0, 0, 65535, 0},
		{0, 1, 0, 1},
		{0, 65535, 0, 0},
		{0, 65535, 65535, 0},
		{65535, 0, 0, 0},
		{65535, 0, 1, 65534},
		{65535, 1, 0, 1},
		{65535, 65535, 0, 65535}, // a sum of 0
		{65535, 65535, 1, 65534},
		{65535, 65535, 65535, 0},
		{65535, 65534, 65535, 65534}, // 65536: folded once, to 1
		{65534, 65535, 65534, 0},     // 65535: not folded

		{-1, 65535, 0, 65535}, // -1 is 65535
		{65535, -1, 0, 65535},
		{0, 65535, -1, 0},
		{65535, 65535, -1, 0},
		{65535, 65535, -65535, 65534},
		{65535, 65535, -65536, 65535},
		{65535, 65535, -65537, 0},
		{65536, 65535, 0, 0}, // 65536 is 0
		{65535, 65536, 0, 0},
		{65535, 65535, 65536, 65535},
		{65535, 65535, 65537, 65534},
		{65537, 65535, 0, 1},
		{65535, 65537, 0, 1},
		{65535, 65535, 0x12345678, 65535 - 0x5678},
		{0x12345678, 65535, 0, 0x5678},
		{65535, 0x12345678, 0, 0x5678},
		{-2, 65535, 0, 65534},
		{65535, -2, 0, 65534},
		{math.MinInt, 65535, 0, 0}, // the least int is 0, the greatest one 65535
		{65535, math.MinInt, 0, 0},
		{65535, 65535, math.MinInt, 65535},
		{math.MinInt, math.MinInt, math.MinInt, 0},
		{math.MaxInt, 65535, 0, 65535},
		{65535, math.MaxInt, 0, 65535},
		{65535, 65535, math.MaxInt, 0},
		{math.MaxInt, math.MaxInt, math.MaxInt, 0},
	} {
		if n := csum.Patch(x.sum, x.old, x.now); n != x.want {
			t.Errorf("Patch(%#x, %#x, %#x): %#x, want %#x", x.sum, x.old, x.now, n, x.want)
		}
	}
}

// P3.2: Patch goes by what its arguments are modulo 65536, each by itself, whatever they are.
func TestPatchAny(t *testing.T) {
	next := source()
	some := func() int { return int(next()) >> (next() % 64) }
	modulo := func(v int) int { return (v%65536 + 65536) % 65536 }
	below, above := 0, 0
	for range 20000 {
		sum, old, now := some(), some(), some()
		s, o, n := modulo(sum), modulo(old), modulo(now)
		want := 65535 - folded((65535-s)+(65535-o)+n)
		if got := csum.Patch(sum, old, now); got != want {
			t.Fatalf("Patch(%#x, %#x, %#x): %#x, want %#x", sum, old, now, got, want)
		}
		for _, v := range []int{sum, old, now} {
			if v < 0 {
				below++
			}
			if v > 65535 {
				above++
			}
		}
	}
	if below < 1000 || above < 1000 {
		t.Errorf("only %d below 0 and %d above 65535 were tried", below, above)
	}
}

// P3.3: Head, ordinary inputs, the edges, and arguments of more than their lowest bytes.
func TestHead(t *testing.T) {
	for _, x := range []struct {
		src, dst uint32
		proto, n int
		want     string
	}{
		{0, 0, 0, 0, "\x00\x00\x00\x00\x00\x00\x00\x00\x00\x00\x00\x00"},
		{0x0a000001, 0x0a000102, 17, 8, "\x0a\x00\x00\x01\x0a\x00\x01\x02\x00\x11\x00\x08"},
		{0x01020304, 0x05060708, 9, 0x0a0b, "\x01\x02\x03\x04\x05\x06\x07\x08\x00\x09\x0a\x0b"},
		{math.MaxUint32, 0, 0, 0, "\xff\xff\xff\xff\x00\x00\x00\x00\x00\x00\x00\x00"},
		{0, math.MaxUint32, 0, 0, "\x00\x00\x00\x00\xff\xff\xff\xff\x00\x00\x00\x00"},
		{0, 0, 255, 0, "\x00\x00\x00\x00\x00\x00\x00\x00\x00\xff\x00\x00"},
		{0, 0, 256, 0, "\x00\x00\x00\x00\x00\x00\x00\x00\x00\x00\x00\x00"},
		{0, 0, 0x1234, 0, "\x00\x00\x00\x00\x00\x00\x00\x00\x00\x34\x00\x00"},
		{0, 0, -1, 0, "\x00\x00\x00\x00\x00\x00\x00\x00\x00\xff\x00\x00"},
		{0, 0, -2, 0, "\x00\x00\x00\x00\x00\x00\x00\x00\x00\xfe\x00\x00"},
		{0, 0, -256, 0, "\x00\x00\x00\x00\x00\x00\x00\x00\x00\x00\x00\x00"},
		{0, 0, math.MinInt, 0, "\x00\x00\x00\x00\x00\x00\x00\x00\x00\x00\x00\x00"},
		{0, 0, math.MinInt + 7, 0, "\x00\x00\x00\x00\x00\x00\x00\x00\x00\x07\x00\x00"},
		{0, 0, math.MaxInt, 0, "\x00\x00\x00\x00\x00\x00\x00\x00\x00\xff\x00\x00"},
		{0, 0, 0, 255, "\x00\x00\x00\x00\x00\x00\x00\x00\x00\x00\x00\xff"},
		{0, 0, 0, 256, "\x00\x00\x00\x00\x00\x00\x00\x00\x00\x00\x01\x00"},
		{0, 0, 0, 65535, "\x00\x00\x00\x00\x00\x00\x00\x00\x00\x00\xff\xff"},
		{0, 0, 0, 65536, "\x00\x00\x00\x00\x00\x00\x00\x00\x00\x00\x00\x00"},
		{0, 0, 0, 0x12345678, "\x00\x00\x00\x00\x00\x00\x00\x00\x00\x00\x56\x78"},
		{0, 0, 0, -1, "\x00\x00\x00\x00\x00\x00\x00\x00\x00\x00\xff\xff"},
		{0, 0, 0, -2, "\x00\x00\x00\x00\x00\x00\x00\x00\x00\x00\xff\xfe"},
		{0, 0, 0, -65536, "\x00\x00\x00\x00\x00\x00\x00\x00\x00\x00\x00\x00"},
		{0, 0, 0, math.MinInt, "\x00\x00\x00\x00\x00\x00\x00\x00\x00\x00\x00\x00"},
		{0, 0, 0, math.MinInt + 0x809, "\x00\x00\x00\x00\x00\x00\x00\x00\x00\x00\x08\x09"},
		{0, 0, 0, math.MaxInt, "\x00\x00\x00\x00\x00\x00\x00\x00\x00\x00\xff\xff"},
		{math.MaxUint32, math.MaxUint32, -1, -1, "\xff\xff\xff\xff\xff\xff\xff\xff\x00\xff\xff\xff"},
	} {
		if s := csum.Head(x.src, x.dst, x.proto, x.n); s != x.want {
			t.Errorf("Head(%#x, %#x, %d, %d): %x, want %x", x.src, x.dst, x.proto, x.n, s, x.want)
		}
	}
}

// P3.4: bytes of an even number with their checksum behind them are Right, in one part or in two, also if all are 0 and it is 65535; with another word behind them they are not.
func TestRightBehind(t *testing.T) {
	for _, s := range texts(200) {
		if len(s)%2 != 0 {
			continue
		}
		sum := csum.Of(s)
		if !csum.Right(s+word(sum)) || !csum.Right(s, word(sum)) {
			t.Errorf("%x with %#x behind it is not right", s, sum)
		}
		if csum.Right(s + word(sum^1)) {
			t.Errorf("%x with %#x behind it is right", s, sum^1)
		}
	}
	for n := 0; n <= 64; n += 2 {
		s := strings.Repeat("\x00", n)
		if sum := csum.Of(s); sum != 65535 || !csum.Right(s, "\xff\xff") || csum.Right(s, "\x00\x00") {
			t.Errorf("%d bytes 0: %#x", n, sum)
		}
	}
}

// P3.4: what is patched is, but for 0 and 65535, the checksum of the bytes with the other word.
func TestPatchOther(t *testing.T) {
	next := source()
	edges := []int{0, 1, 255, 256, 32768, 65534, 65535}
	exact := 0
	for _, s := range texts(40) {
		for at := 0; at+2 <= len(s); at += 2 {
			old := int(s[at])<<8 | int(s[at+1])
			for _, now := range append(slices.Clone(edges), old, int(next()%65536)) {
				other := s[:at] + word(now) + s[at+2:]
				got, want := csum.Patch(csum.Of(s), old, now), csum.Of(other)
				if got%65535 != want%65535 { // 0 and 65535 alone are taken for each other
					t.Fatalf("%x to %x: patched %#x, want %#x", s, other, got, want)
				}
				if got == want {
					exact++
				}
			}
		}
	}
	if exact < 1000 {
		t.Errorf("only %d were the same", exact)
	}
	if n := csum.Patch(csum.Of("\x00\x00"), 0, 0); n != 0 || csum.Of("\x00\x00") != 65535 {
		t.Errorf("the word 0 of bytes that are all 0, patched: %#x", n)
	}
}

// P3.4: the order of words makes no difference; that of bytes does.
func TestOrder(t *testing.T) {
	next := source()
	for _, s := range texts(64) {
		if len(s)%2 != 0 {
			continue
		}
		list := []string{}
		for i := 0; i < len(s); i += 2 {
			list = append(list, s[i:i+2])
		}
		want, right := csum.Of(s), csum.Right(s)
		slices.Reverse(list)
		for range 4 {
			if n := csum.Of(list...); n != want || csum.Right(list...) != right {
				t.Errorf("the words of %x, as %x: %#x, want %#x", s, list, n, want)
			}
			for i := range list {
				j := int(next() % uint64(i+1))
				list[i], list[j] = list[j], list[i]
			}
		}
	}
	if csum.Of("\x01\x02") == csum.Of("\x02\x01") {
		t.Error("the order of the bytes of a word makes no difference")
	}
}
