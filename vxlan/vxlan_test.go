package vxlan_test

import (
	"math"
	"strings"
	"testing"
	"unsafe"

	"gangway/api"
	"gangway/vxlan"
)

// source answers numbers, the same ones in each run.
func source() func() uint64 {
	x := uint64(88172645463325252)
	return func() uint64 {
		x ^= x << 13
		x ^= x >> 7
		x ^= x << 17
		return x
	}
}

// some are n bytes.
func some(next func() uint64, n int) string {
	b := make([]byte, n)
	for i := range n {
		b[i] = byte(next() >> 20)
	}
	return string(b)
}

// head is the head that a number must have.
func head(vni int) string {
	return string([]byte{8, 0, 0, 0, byte(vni >> 16), byte(vni >> 8), byte(vni), 0})
}

// apart is s with other bits in one byte.
func apart(s string, at int, bits byte) string {
	b := []byte(s)
	b[at] ^= bits
	return string(b)
}

// sum is what Hash must be, by numbers that have room for each product.
func sum(s string) uint32 {
	v := uint64(2166136261)
	for _, c := range []byte(s) {
		v = (v ^ uint64(c)) * 16777619 % 4294967296
	}
	return uint32(v)
}

// built holds Build against a number and bytes that may be, and Parse against what was built.
func built(t *testing.T, vni int, s string) {
	t.Helper()
	b, e := vxlan.Build(vni, s)
	if b != head(vni)+s || e != api.OK {
		t.Errorf("Build(%d, %d bytes %.30x): %d bytes %.40x, %v", vni, len(s), s, len(b), b, e)
	}
	parsed(t, b, vni, s)
}

// parsed holds Parse against bytes that are a number and a frame.
func parsed(t *testing.T, s string, vni int, frame string) {
	t.Helper()
	if n, f, e := vxlan.Parse(s); n != vni || f != frame || e != api.OK {
		t.Errorf("Parse(%d bytes %.40x): %d, %d bytes %.30x, %v, want %d, %d bytes %.30x", len(s), s, n, len(f), f, e, vni, len(frame), frame)
	}
}

// refused holds Parse against bytes that are none.
func refused(t *testing.T, s string, want api.Errno) {
	t.Helper()
	if n, f, e := vxlan.Parse(s); n != 0 || f != "" || e != want {
		t.Errorf("Parse(%d bytes %.40x): %d, %d bytes %.30x, %v, want %v", len(s), s, n, len(f), f, e, want)
	}
}

// P8.1: Build and Parse, ordinary inputs, and the document's example.
func TestBuild(t *testing.T) {
	for _, x := range []struct {
		vni  int
		s    string
		want string
	}{
		{0x010203, "x", "\x08\x00\x00\x00\x01\x02\x03\x00x"},
		{0, "", "\x08\x00\x00\x00\x00\x00\x00\x00"},
		{0, "\x00", "\x08\x00\x00\x00\x00\x00\x00\x00\x00"},
		{1, "frame", "\x08\x00\x00\x00\x00\x00\x01\x00frame"},
		{255, "\xff\x80\x7f", "\x08\x00\x00\x00\x00\x00\xff\x00\xff\x80\x7f"},
		{256, "", "\x08\x00\x00\x00\x00\x01\x00\x00"},
		{65536, "\x08\x00\x00\x00\x01\x02\x03\x00", "\x08\x00\x00\x00\x01\x00\x00\x00\x08\x00\x00\x00\x01\x02\x03\x00"},
		{5000, "\xff\xff\xff\xff\xff\xff\x00\x00\x00\x00\x00\x02\x08\x06", "\x08\x00\x00\x00\x00\x13\x88\x00\xff\xff\xff\xff\xff\xff\x00\x00\x00\x00\x00\x02\x08\x06"},
		{1<<24 - 1, "", "\x08\x00\x00\x00\xff\xff\xff\x00"},
		{1<<24 - 1, "\xff", "\x08\x00\x00\x00\xff\xff\xff\x00\xff"},
	} {
		if s, e := vxlan.Build(x.vni, x.s); s != x.want || e != api.OK {
			t.Errorf("Build(%d, %x): %x, %v, want %x", x.vni, x.s, s, e, x.want)
		}
		parsed(t, x.want, x.vni, x.s)
	}
}

// P8.1, P8.3: a number of 0 to 2^24 - 1 stands in the fifth to the seventh byte, and is parsed as it was.
func TestBuildNumbers(t *testing.T) {
	for n := range 65536 {
		built(t, n, "x")                // the last two bytes
		built(t, n<<8|n>>8&255, "")     // the first two bytes
		built(t, n*251, "a frame")      // all over
		built(t, 1<<24-1-n, "\x00\xff") // down from the greatest one
	}
}

// P8.1: a number that is not 0 to 2^24 - 1 is ErrArg, whatever the bytes are, and nothing else is told.
func TestBuildOtherNumbers(t *testing.T) {
	for _, n := range []int{math.MinInt, math.MinInt + 1, -1<<32 + 1, -1 << 32, -1 << 31, -1<<24 - 1, -1 << 24, -1<<24 + 1, -256, -2, -1, 1 << 24, 1<<24 + 1, 1<<25 - 1, 1 << 31, 1<<32 - 1, 1 << 32, 1<<32 + 1, 1 << 62, math.MaxInt - 1, math.MaxInt} {
		for _, s := range []string{"", "x", strings.Repeat("\xff", 1600)} {
			if b, e := vxlan.Build(n, s); b != "" || e != api.ErrArg {
				t.Errorf("Build(%d, %d bytes): %d bytes %.40x, %v", n, len(s), len(b), b, e)
			}
		}
	}
}

// P8.1, P8.3: all bytes stand behind the head, and all are parsed, as many as there are.
func TestBuildLengths(t *testing.T) {
	next := source()
	for n := range 1700 {
		built(t, int(next()>>30%(1<<24)), some(next, n))
	}
	for _, n := range []int{65507, 65508, 65535, 65536, 1 << 20} { // the chapter names no greatest length
		built(t, 7, some(next, n))
	}
}

// P8.1: less than eight bytes are ErrVxlanShort, be the bit 08 of the first byte there or not: that is named first.
func TestParseShort(t *testing.T) {
	next := source()
	refused(t, "", api.ErrVxlanShort)
	for n := range 8 {
		refused(t, head(0x010203)[:n], api.ErrVxlanShort)
		refused(t, strings.Repeat("\x00", n), api.ErrVxlanShort)
		refused(t, strings.Repeat("\xff", n), api.ErrVxlanShort)
		refused(t, strings.Repeat("\xf7", n), api.ErrVxlanShort)
		for range 50 {
			refused(t, some(next, n), api.ErrVxlanShort)
		}
	}
	parsed(t, head(0x010203), 0x010203, "")
	parsed(t, head(0x010203)+"\x00", 0x010203, "\x00")
}

// P8.1: without the bit 08 of the first byte eight bytes or more are ErrVxlanFlag, whatever all other bits are; with it they make no difference.
func TestParseFlag(t *testing.T) {
	for first := range 256 {
		for _, s := range []string{
			"\x00\x00\x00\x01\x02\x03\x00", "\xff\xff\xff\x01\x02\x03\xff", "\x08\x08\x08\x01\x02\x03\x08", "\x00\x00\x00\x01\x02\x03\x00frame", "\xff\xff\xff\x01\x02\x03\xff\x08\xff\x00",
		} {
			b := string([]byte{byte(first)}) + s
			if first/8%2 == 1 {
				parsed(t, b, 0x010203, s[7:])
			} else {
				refused(t, b, api.ErrVxlanFlag)
			}
		}
	}
}

// P8.1: each bit of the eight bytes: that of the flag is asked for, the number's make another number, others no difference.
func TestParseBits(t *testing.T) {
	for _, vni := range []int{0, 0x010203, 0xa55aa5, 1<<24 - 1} {
		for bit := range 64 {
			at, mask := bit/8, byte(1)<<(bit%8)
			s := apart(head(vni)+"frame", at, mask)
			switch {
			case at == 0 && mask == 8:
				refused(t, s, api.ErrVxlanFlag)
			case at >= 4 && at <= 6:
				parsed(t, s, vni^int(mask)<<(8*(6-at)), "frame")
			default:
				parsed(t, s, vni, "frame")
			}
		}
	}
}

// P8.1: bytes of any kind are parsed or refused as the chapter says.
func TestParseAny(t *testing.T) {
	next := source()
	for range 20000 {
		s := some(next, int(next()>>30%40))
		switch {
		case len(s) < 8:
			refused(t, s, api.ErrVxlanShort)
		case s[0]&8 == 0:
			refused(t, s, api.ErrVxlanFlag)
		default:
			parsed(t, s, int(s[4])*65536+int(s[5])*256+int(s[6]), s[8:])
		}
	}
}

// P8.1: the frame that is parsed shares no memory with what it was parsed from (R4).
func TestParseNewMemory(t *testing.T) {
	s := head(5) + strings.Repeat("frame", 20)
	_, f, _ := vxlan.Parse(s)
	first, at := uintptr(unsafe.Pointer(unsafe.StringData(s))), uintptr(unsafe.Pointer(unsafe.StringData(f)))
	if at >= first && at < first+uintptr(len(s)) {
		t.Error("the frame is a piece of what was handed in")
	}
}

// P8.2: Hash of no bytes, of few, of bytes above 127, of a text whose bytes stand otherwise, and of each byte.
func TestHash(t *testing.T) {
	all := ""
	for c := range 256 {
		all += string([]byte{byte(c)})
	}
	for _, x := range []struct {
		s    string
		want uint32
	}{
		{"", 2166136261}, {"a", 0xe40c292c}, {"b", 0xe70c2de5}, {"ab", 0x4d2505ca}, {"ba", 0x3c2ba6cc}, {"foobar", 0xbf9cf968},
		{"\x00", 0x050c5d1f}, {"\x7f", 0xfa0c4bce}, {"\x80", 0x850b939f}, {"\xff", 0x7a0b824e}, {"\xc3", 0x460b3072}, {"\xc3\xa9", 0x1e9de8c1},
		{strings.Repeat("\x00", 14), 0x3538be3d}, {strings.Repeat("\xff", 14), 0xcdd44e47}, {"12345678901234", 0xb48037d8}, {"123456789012345", 0x12d80a17}, {all, 0x90a458c5},
	} {
		if h := vxlan.Hash(x.s); h != x.want {
			t.Errorf("Hash(%q): %#x, want %#x", x.s, h, x.want)
		}
	}
}

// P8.2: Hash goes over every byte, of whatever length the text is.
func TestHashAny(t *testing.T) {
	next := source()
	for c := range 256 {
		for d := range 256 {
			if s := string([]byte{byte(c), byte(d)}); vxlan.Hash(s) != sum(s) {
				t.Errorf("Hash(%x): %#x, want %#x", s, vxlan.Hash(s), sum(s))
			}
		}
	}
	for n := range 2000 {
		if s := some(next, n); vxlan.Hash(s) != sum(s) {
			t.Errorf("Hash(%d bytes %.30x): %#x, want %#x", n, s, vxlan.Hash(s), sum(s))
		}
	}
}

// P8.2: Port of 0, 13, 14, 15 and other numbers of bytes.
func TestPort(t *testing.T) {
	for _, x := range []struct {
		s    string
		want int
	}{
		{"", 49152 + 2166136261%16384}, {"", 56773}, {"\x00", 56607}, {"a", 59692}, {"foobar", 63848}, {"\x80", 54175}, {"\xff", 49742},
		{strings.Repeat("\x80", 13), 53615}, {"1234567890123", 61436}, {"12345678901234", 63448}, {"12345678901235", 63851}, {"22345678901234", 56615},
		{"123456789012345", 63448}, {"123456789012346", 63448}, {"12345678901234" + strings.Repeat("\xff", 1600), 63448},
		{"\xff\xff\xff\xff\xff\xff\x00\x00\x00\x00\x00\x02\x08\x06", 53547}, {"\xff\xff\xff\xff\xff\xff\x00\x00\x00\x00\x00\x02\x08\x00body", 55965},
		{strings.Repeat("\x00", 14), 65085}, {strings.Repeat("\x00", 15), 65085}, {strings.Repeat("\xff", 14), 52807}, {strings.Repeat("\xff", 60), 52807},
	} {
		if p := vxlan.Port(x.s); p != x.want {
			t.Errorf("Port(%d bytes %.20q): %d, want %d", len(x.s), x.s, p, x.want)
		}
	}
}

// P8.2, P8.3: Port of each number of bytes is that of the first fourteen, or of all, and is 49152 to 65535.
func TestPortLengths(t *testing.T) {
	next := source()
	for range 50 {
		for n := range 60 {
			s := some(next, n)
			p := vxlan.Port(s)
			if want := 49152 + int(sum(s[:min(n, 14)])%16384); p != want {
				t.Errorf("Port(%x): %d, want %d", s, p, want)
			}
			if p < 49152 || p > 65535 {
				t.Errorf("Port(%x): %d", s, p)
			}
		}
	}
}

// P8.3: a port hangs on each bit of the first fourteen bytes, and on none behind them.
func TestPortParts(t *testing.T) {
	next := source()
	for range 20 {
		s := some(next, 40)
		p := vxlan.Port(s)
		for at := range len(s) {
			same := 0
			for bit := range 8 {
				if vxlan.Port(apart(s, at, 1<<bit)) == p {
					same++
				}
			}
			if at >= 14 && same != 8 {
				t.Errorf("Port(%x): another byte %d makes another one", s, at+1)
			}
			if at < 14 && same > 2 { // two texts may have one port by chance
				t.Errorf("Port(%x): another byte %d makes no other one", s, at+1)
			}
		}
		for n := 14; n <= len(s); n++ {
			if q := vxlan.Port(s[:n]); q != p {
				t.Errorf("Port(%x): %d, and of the first %d bytes %d", s, p, n, q)
			}
		}
	}
}

// P8.3: the least and the greatest port are both met, and every one between them, and none beyond.
func TestPortRange(t *testing.T) {
	seen := make([]bool, 65536)
	for n := range 1 << 18 {
		p := vxlan.Port(string([]byte{byte(n >> 16), byte(n >> 8), byte(n)}))
		if p < 49152 || p > 65535 {
			t.Fatalf("Port(%06x): %d", n, p)
		}
		seen[p] = true
	}
	for p := 49152; p < 65536; p++ {
		if !seen[p] {
			t.Errorf("no text has the port %d", p)
		}
	}
}
