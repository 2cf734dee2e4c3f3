package addrs_test

import (
	"math"
	"strconv"
	"strings"
	"testing"

	"gangway/addrs"
	"gangway/api"
)

// some are numbers that go over all widths, the same ones in each run.
func some(n int) []uint64 {
	out := []uint64{0, 1, 0xff, 0x100, 1<<32 - 1, 1 << 32, 1<<40 - 1, 1 << 40, 1<<48 - 1, 1 << 48, math.MaxUint64}
	x := uint64(88172645463325252)
	for range n {
		x ^= x << 13
		x ^= x >> 7
		x ^= x << 17
		out = append(out, x>>(x%64))
	}
	return out
}

// nets are nets of each number of bits, many of which have much in common, and some that have little.
func nets() []api.Net {
	out := []api.Net{}
	for bits := range 33 {
		for _, a := range []uint32{0, 0x0a000000, 0x0a000001, 0x0a800000, 0x7fffffff, 0x80000000, 0xc0a80101, math.MaxUint32 - 1, math.MaxUint32} {
			out = append(out, api.Net{Ip: uint32(uint64(a) >> (32 - bits) << (32 - bits)), Bits: bits})
		}
	}
	return out
}

// none are what may be no net: too few or too many bits, or a bit behind those that count.
func none() []api.Net {
	out := []api.Net{}
	for _, bits := range []int{math.MinInt, -32, -1, 33, 64, math.MaxInt} {
		out = append(out, api.Net{Bits: bits}, api.Net{Ip: 0x0a000000, Bits: bits}, api.Net{Ip: math.MaxUint32, Bits: bits})
	}
	for bits := range 32 {
		front := uint32(uint64(math.MaxUint32) << (32 - bits))
		behind := uint32(1) << (31 - bits) // the first bit that does not count
		for _, a := range []uint32{behind, front | behind, front | 1, 1, math.MaxUint32} {
			out = append(out, api.Net{Ip: a, Bits: bits})
		}
	}
	return out
}

// P2.1: Mac and ReadMac, ordinary inputs, and the document's example.
func TestMac(t *testing.T) {
	for m, want := range map[uint64]string{
		0:              "00:00:00:00:00:00",
		1:              "00:00:00:00:00:01",
		0x0180c2000000: "01:80:c2:00:00:00",
		0x0123456789ab: "01:23:45:67:89:ab",
		0xabcdef000a0f: "ab:cd:ef:00:0a:0f",
		1<<48 - 1:      "ff:ff:ff:ff:ff:ff",
		0x020000000000: "02:00:00:00:00:00",
		0x00000000ff00: "00:00:00:00:ff:00",
		0x800000000000: "80:00:00:00:00:00",
		0x7fffffffffff: "7f:ff:ff:ff:ff:ff",
		0x010203040506: "01:02:03:04:05:06",
		0x102030405060: "10:20:30:40:50:60",
		0xfe9a8b7c6d5e: "fe:9a:8b:7c:6d:5e",
		0x000102030405: "00:01:02:03:04:05",
		0xf0f1f2f3f4f5: "f0:f1:f2:f3:f4:f5",
		0xfffffffffffe: "ff:ff:ff:ff:ff:fe",
	} {
		if s := addrs.Mac(m); s != want {
			t.Errorf("Mac(%#x): %q, want %q", m, s, want)
		}
		if r, e := addrs.ReadMac(want); r != m || e != api.OK {
			t.Errorf("ReadMac(%q): %#x, %v, want %#x", want, r, e, m)
		}
	}
}

// P2.1: what a number has beyond 48 bits is not written.
func TestMacBeyond(t *testing.T) {
	for m, want := range map[uint64]string{
		1 << 48:                "00:00:00:00:00:00",
		1<<48 + 1:              "00:00:00:00:00:01",
		1<<49 - 1:              "ff:ff:ff:ff:ff:ff",
		0xdead0180c2000000:     "01:80:c2:00:00:00",
		math.MaxUint64:         "ff:ff:ff:ff:ff:ff",
		math.MaxUint64 - 1<<40: "fe:ff:ff:ff:ff:ff",
	} {
		if s := addrs.Mac(m); s != want {
			t.Errorf("Mac(%#x): %q, want %q", m, s, want)
		}
	}
}

// P2.1: ReadMac, wrong texts.
func TestReadMacWrong(t *testing.T) {
	for _, s := range []string{
		"", ":", ":::::", "::::::", "01", // no parts, or nothing in them
		"01:02:03:04:05", "01:02:03:04:05:06:07", "01:02:03:04:05:", ":01:02:03:04:05", // too few or too many
		"01:02:03:04:05:06:", ":01:02:03:04:05:06", "01::03:04:05:06", "01:02:03:04:05:06:07:08",
		"1:02:03:04:05:06", "01:02:3:04:05:06", "01:02:03:04:05:6", // one digit in place of two
		"001:02:03:04:05:06", "01:0203:04:05:06", "0102:03:04:05:06:07", "01:02:03:04:05:0607", "0102:03::04:05:06",
		"0g:02:03:04:05:06", "01:02:03:04:05:0g", "01:02:03:zz:05:06", "0x:02:03:04:05:06", "-1:02:03:04:05:06", "+1:02:03:04:05:06", // what is no digit
		"0A:02:03:04:05:06", "01:02:03:04:05:FF", "FF:FF:FF:FF:FF:FF", "01:80:C2:00:00:00", // capital ones
		"01-02-03-04-05-06", "01.02.03.04.05.06", "01:02:03:04:05-06", "01 02 03 04 05 06", "01;02:03:04:05:06", "010203040506", "0102.0304.0506", // another sign
		"01:02:03:04:05:06 ", " 01:02:03:04:05:06", "01: 02:03:04:05:06", "01:02:03:04:05:06\n", "01:02:03:04:05:06\x00",
		"01:02:03:04:05:0\xff", "01:02:03:04:05:ä", "01:02:03:04:05:0\uff11", "01\uff1a02:03:04:05:06", "10.0.1.2",
		strings.Repeat("00:", 1000) + "00", strings.Repeat("00", 1000) + ":00:00:00:00:00",
	} {
		if m, e := addrs.ReadMac(s); m != 0 || e != api.ErrAddrsText {
			t.Errorf("ReadMac(%q): %#x, %v, want ErrAddrsText", s, m, e)
		}
	}
}

// P2.1: a text that differs from a MAC address' in one byte is read just when it is another one's.
func TestReadMacEachByte(t *testing.T) {
	const text = "01:80:c2:00:00:0e"
	for i := range len(text) {
		for c := range 256 {
			s := text[:i] + string([]byte{byte(c)}) + text[i+1:]
			m, e := addrs.ReadMac(s)
			fine := i%3 == 2 && c == ':' || i%3 != 2 && strings.IndexByte("0123456789abcdef", byte(c)) >= 0
			if fine && (e != api.OK || addrs.Mac(m) != s) || !fine && (m != 0 || e != api.ErrAddrsText) {
				t.Errorf("ReadMac(%q): %#x, %v", s, m, e)
			}
		}
	}
}

// P2.1: Ip and ReadIp, ordinary inputs, and the document's example.
func TestIp(t *testing.T) {
	for a, want := range map[uint32]string{
		0:              "0.0.0.0",
		1:              "0.0.0.1",
		0x0a000102:     "10.0.1.2",
		0xc0a80164:     "192.168.1.100",
		0x01020304:     "1.2.3.4",
		0x7f000001:     "127.0.0.1",
		0x80000000:     "128.0.0.0",
		0x64c8096e:     "100.200.9.110",
		0x00ff00ff:     "0.255.0.255",
		math.MaxUint32: "255.255.255.255",
		0xfffffffe:     "255.255.255.254",
	} {
		if s := addrs.Ip(a); s != want {
			t.Errorf("Ip(%#x): %q, want %q", a, s, want)
		}
		if r, e := addrs.ReadIp(want); r != a || e != api.OK {
			t.Errorf("ReadIp(%q): %#x, %v, want %#x", want, r, e, a)
		}
	}
}

// P2.1: ReadIp, wrong texts.
func TestReadIpWrong(t *testing.T) {
	for _, s := range []string{
		"", ".", "...", "....", "1", // no parts, or nothing in them
		"1.2.3", "1.2.3.4.5", "1.2.3.", ".1.2.3", "1.2.3.4.", ".1.2.3.4", "1..3.4", "1.2..4", "1...4", "16909060", "1.2.3.4.5.6.7.8", // too few or too many
		"01.2.3.4", "1.02.3.4", "1.2.3.04", "1.2.3.004", "00.0.0.0", "0.0.0.00", "1.2.3.0255", // zeros ahead
		"256.2.3.4", "1.256.3.4", "1.2.3.256", "1.2.3.257", "1.2.3.300", "1.2.3.999", "1.2.3.1000", "1.2.3.511", "1.2.3.512", // 256 and more
		"1.2.3.4294967300", "1.2.3.18446744073709551620", "1.2.3.99999999999999999999999",
		"a.b.c.d", "1.2.3.a", "1.2.3.4a", "0x1.2.3.4", "1.2.3.1e1", "1.2.3.1_0", "1.2.3.ff", "1.2.3.A", // what is no digit
		"-1.2.3.4", "1.2.3.-4", "+1.2.3.4", "1.2.3.+4", "1.2.3.-0",
		"1:2:3:4", "1,2,3,4", "1.2.3,4", "1-2-3-4", "1 2 3 4", "1.2.3:4", "1\uff0e2.3.4", // another sign
		"1.2.3.4 ", " 1.2.3.4", "1. 2.3.4", "1.2.3.4\n", "1.2.3.4\x00", "1.2.3.4/8", "1.2.3.\xff", "1.2.3.\u0664", "1.2.3.\uff14",
		strings.Repeat("1.", 1000) + "1", "1.2.3." + strings.Repeat("0", 1000) + "4", "1.2.3." + strings.Repeat("9", 1000),
	} {
		if a, e := addrs.ReadIp(s); a != 0 || e != api.ErrAddrsText {
			t.Errorf("ReadIp(%q): %#x, %v, want ErrAddrsText", s, a, e)
		}
	}
}

// P2.1: each number as each of the four parts; from 256 on it is none.
func TestReadIpEachPart(t *testing.T) {
	for place := range 4 {
		for n := range 1100 {
			parts := []string{"9", "8", "7", "6"}
			parts[place] = strconv.Itoa(n)
			s := strings.Join(parts, ".")
			want, wantE := uint32(0), api.ErrAddrsText
			if n < 256 {
				shift := 8 * (3 - place)
				want, wantE = 0x09080706&^(0xff<<shift)|uint32(n)<<shift, api.OK
			}
			if a, e := addrs.ReadIp(s); a != want || e != wantE {
				t.Errorf("ReadIp(%q): %#x, %v, want %#x, %v", s, a, e, want, wantE)
			}
		}
	}
}

// P2.2: Group and Own, ordinary inputs and edges.
func TestKinds(t *testing.T) {
	for _, x := range []struct {
		m          uint64
		group, own bool
	}{
		{0, false, false},
		{1, false, true},
		{0x010000000000, true, false},
		{0x00ffffffffff, false, true},
		{0x020000000000, false, true},
		{0x030000000000, true, false},
		{0x0180c2000000, true, false},
		{0x0280c2000001, false, true},
		{0xfe0000000000, false, true},
		{0xfeffffffffff, false, true},
		{0xff0000000000, true, false},
		{1<<48 - 1, true, false},
		{1 << 48, false, false},
		{1<<48 + 1, false, false},
		{1<<48 + 1<<40, true, false},
		{1<<49 - 1, true, false},
		{1 << 63, false, false},
		{math.MaxUint64 - 1<<40, false, false},
		{math.MaxUint64, true, false},
	} {
		if g := addrs.Group(x.m); g != x.group {
			t.Errorf("Group(%#x): %v", x.m, g)
		}
		if o := addrs.Own(x.m); o != x.own {
			t.Errorf("Own(%#x): %v", x.m, o)
		}
	}
}

// P2.2: of a number's bits one alone makes it Group.
func TestGroupIsOneBit(t *testing.T) {
	for i := range 64 {
		bit := uint64(1) << i
		if addrs.Group(bit) != (i == 40) || addrs.Group(^bit) != (i != 40) {
			t.Errorf("bit %d", i)
		}
		if addrs.Own(bit) != (i < 48 && i != 40) {
			t.Errorf("own: bit %d", i)
		}
	}
}

// P2.3: Net, In and Last, ordinary inputs and edges, and the document's example.
func TestNets(t *testing.T) {
	const all = math.MaxUint32
	for _, x := range []struct {
		p       api.Net
		last    uint32
		in, out []uint32
	}{
		{api.Net{Ip: 0x0a000000, Bits: 8}, 0x0affffff, []uint32{0x0a000000, 0x0a000001, 0x0a800000, 0x0affffff}, []uint32{0, 0x09ffffff, 0x0b000000, 0x8a000000, all}},
		{api.Net{Ip: 0x0a000100, Bits: 24}, 0x0a0001ff, []uint32{0x0a000100, 0x0a0001ff}, []uint32{0x0a0000ff, 0x0a000200, 0x00000100}},
		{api.Net{Ip: 0, Bits: 0}, all, []uint32{0, 1, 0x0a000000, 0x80000000, all}, nil},
		{api.Net{Ip: 0, Bits: 1}, 0x7fffffff, []uint32{0, 0x7fffffff}, []uint32{0x80000000, all}},
		{api.Net{Ip: 0x80000000, Bits: 1}, all, []uint32{0x80000000, all}, []uint32{0, 0x7fffffff}},
		{api.Net{Ip: 6, Bits: 31}, 7, []uint32{6, 7}, []uint32{5, 8, 0}},
		{api.Net{Ip: 7, Bits: 32}, 7, []uint32{7}, []uint32{6, 8, 0, all}},
		{api.Net{Ip: 0, Bits: 32}, 0, []uint32{0}, []uint32{1, all}},
		{api.Net{Ip: all, Bits: 32}, all, []uint32{all}, []uint32{0, all - 1}},
		{api.Net{Ip: 0xfffffff0, Bits: 28}, all, []uint32{0xfffffff0, all}, []uint32{0xffffffef, 0}},
	} {
		if !addrs.Net(x.p) || addrs.Last(x.p) != x.last {
			t.Errorf("%v: %v, last %#x, want %#x", x.p, addrs.Net(x.p), addrs.Last(x.p), x.last)
		}
		for _, a := range x.in {
			if !addrs.In(x.p, a) {
				t.Errorf("%v: %#x is not in it", x.p, a)
			}
		}
		for _, a := range x.out {
			if addrs.In(x.p, a) {
				t.Errorf("%v: %#x is in it", x.p, a)
			}
		}
	}
}

// P2.3: what is no net has no address, no last one, and is near nothing.
func TestNoNet(t *testing.T) {
	whole := api.Net{}
	for _, p := range none() {
		if addrs.Net(p) || addrs.Last(p) != 0 {
			t.Errorf("%v: %v, last %#x", p, addrs.Net(p), addrs.Last(p))
		}
		for _, a := range []uint32{0, 1, p.Ip, math.MaxUint32} {
			if addrs.In(p, a) {
				t.Errorf("%v: %#x is in it", p, a)
			}
		}
		if addrs.Near(p, p) || addrs.Near(p, whole) || addrs.Near(whole, p) || addrs.Near(api.Net{Ip: p.Ip, Bits: 32}, p) {
			t.Errorf("%v is near", p)
		}
	}
}

// P2.3: Near, ordinary inputs, and a net against itself.
func TestNear(t *testing.T) {
	ten := api.Net{Ip: 0x0a000000, Bits: 8}
	for _, x := range []struct {
		p, q api.Net
		want bool
	}{
		{api.Net{Ip: 0x0a010000, Bits: 16}, ten, true},
		{ten, api.Net{Ip: 0x0a010000, Bits: 16}, false},
		{ten, api.Net{Ip: 0x0a000000, Bits: 16}, false},
		{api.Net{Ip: 0x0a000000, Bits: 16}, ten, true},
		{api.Net{Ip: 0x0aff0000, Bits: 16}, ten, true},
		{ten, api.Net{Ip: 0x0aff0000, Bits: 16}, false},
		{ten, api.Net{Ip: 0x0b000000, Bits: 8}, false},
		{api.Net{Ip: 0x0b000000, Bits: 16}, ten, false},
		{api.Net{Ip: 0x0affffff, Bits: 32}, ten, true},
		{api.Net{Ip: 0x0b000000, Bits: 32}, ten, false},
		{ten, api.Net{}, true},
		{api.Net{}, ten, false},
		{api.Net{}, api.Net{Ip: 0, Bits: 1}, false},
		{api.Net{}, api.Net{Ip: 0x80000000, Bits: 1}, false},
	} {
		if n := addrs.Near(x.p, x.q); n != x.want {
			t.Errorf("Near(%v, %v): %v", x.p, x.q, n)
		}
	}
	for _, p := range nets() {
		if !addrs.Near(p, p) {
			t.Errorf("%v is not near itself", p)
		}
	}
}

// P2.4: what is written is read as it was.
func TestWrittenIsRead(t *testing.T) {
	for _, v := range some(20000) {
		m, a := v&(1<<48-1), uint32(v)
		if r, e := addrs.ReadMac(addrs.Mac(m)); r != m || e != api.OK {
			t.Errorf("%#x: %#x, %v", m, r, e)
		}
		if r, e := addrs.ReadIp(addrs.Ip(a)); r != a || e != api.OK {
			t.Errorf("%#x: %#x, %v", a, r, e)
		}
	}
}

// P2.4: a net has the addresses from Ip to Last, and no others.
func TestNetIsFromIpToLast(t *testing.T) {
	for _, p := range nets() {
		last := addrs.Last(p)
		if !addrs.Net(p) || uint64(last)-uint64(p.Ip)+1 != 1<<(32-p.Bits) {
			t.Errorf("%v: %v, last %#x", p, addrs.Net(p), last)
		}
		tried := []uint32{0, p.Ip - 1, p.Ip, p.Ip + 1, last - 1, last, last + 1, math.MaxUint32}
		for _, v := range some(300) {
			tried = append(tried, uint32(v), p.Ip+uint32(v%(1<<(32-p.Bits))))
		}
		for _, a := range tried {
			if addrs.In(p, a) != (p.Ip <= a && a <= last) {
				t.Errorf("%v to %#x: %#x", p, last, a)
			}
		}
	}
}

// P2.4: of two nets one is in the other, or they have no address in common.
func TestTwoNets(t *testing.T) {
	for _, p := range nets() {
		for _, q := range nets() {
			within := q.Ip <= p.Ip && addrs.Last(p) <= addrs.Last(q)
			if addrs.Near(p, q) != within {
				t.Errorf("Near(%v, %v): %v", p, q, !within)
			}
			apart := addrs.Last(p) < q.Ip || addrs.Last(q) < p.Ip
			if apart == (addrs.Near(p, q) || addrs.Near(q, p)) {
				t.Errorf("%v and %v", p, q)
			}
			if addrs.Near(p, q) && addrs.Near(q, p) && p != q {
				t.Errorf("%v and %v are each in the other", p, q)
			}
		}
	}
}
