package udp_test

import (
	"math"
	"strings"
	"testing"
	"unsafe"

	"gangway/api"
	"gangway/udp"
)

// Two addresses that most tests go between.
const (
	from uint32 = 0x0a000001
	to   uint32 = 0x0a000002
)

// word is v as two bytes.
func word(v int) string { return string([]byte{byte(v >> 8), byte(v)}) }

// with is s with now in the place of as many bytes from at on.
func with(s string, at int, now string) string { return s[:at] + now + s[at+len(now):] }

// source answers numbers, the same ones in each run.
func source() func() uint64 {
	x := uint64(88172645463325252)
	return func() uint64 {
		x ^= x << 13
		x ^= x >> 7
		x ^= x << 17
		return x
	}
}

// some are n bytes.
func some(next func() uint64, n int) string {
	b := make([]byte, n)
	for i := range n {
		b[i] = byte(next() >> 20)
	}
	return string(b)
}

// datagram is one that may be.
func datagram(next func() uint64) api.Udp {
	return api.Udp{Src: int(next() >> 30 % 65536), Dst: int(next() >> 30 % 65536), NoSum: next()>>30%4 == 0, Body: some(next, int(next()>>30%80))}
}

// due is the checksum that bytes must have whose own is left out: 0, too, where 65535 is to be told. It goes a way of its own, by addition of words.
func due(src, dst uint32, s string) int {
	n := int(src>>16) + int(src&65535) + int(dst>>16) + int(dst&65535) + 17 + len(s)
	for i := range len(s) {
		switch {
		case i == 6 || i == 7:
		case i%2 == 0:
			n += int(s[i]) << 8
		default:
			n += int(s[i])
		}
	}
	for n > 65535 {
		n = n&65535 + n>>16
	}
	return 65535 - n
}

// sealed is s with the sum that all of it must have.
func sealed(src, dst uint32, s string) string {
	n := due(src, dst, s)
	if n == 0 {
		n = 65535
	}
	return with(s, 6, word(n))
}

// raw are a datagram's bytes with 0 in the sum's place.
func raw(srcPort, dstPort, length int, body string) string {
	return word(srcPort) + word(dstPort) + word(length) + "\x00\x00" + body
}

// brief is a datagram whose body is cut for a message.
func brief(u api.Udp) api.Udp {
	u.Body = u.Body[:min(len(u.Body), 20)]
	return u
}

// expect holds what Check and Build say of a datagram against bytes and an error.
func expect(t *testing.T, src, dst uint32, u api.Udp, want string, wantE api.Errno) {
	t.Helper()
	if e := udp.Check(u); e != wantE {
		t.Errorf("Check(%+v), a body of %d: %v, want %v", brief(u), len(u.Body), e, wantE)
	}
	if s, e := udp.Build(src, dst, u); s != want || e != wantE {
		t.Errorf("Build(%x, %x, %+v), a body of %d: %d bytes %.40x, %v, want %d bytes %.40x, %v", src, dst, brief(u), len(u.Body), len(s), s, e, len(want), want, wantE)
	}
}

// parsed holds Parse against bytes that are a datagram.
func parsed(t *testing.T, src, dst uint32, s string, want api.Udp) {
	t.Helper()
	if u, e := udp.Parse(src, dst, s); u != want || e != api.OK {
		t.Errorf("Parse(%x, %x, %.40x), %d bytes: %+v, %v, want %+v", src, dst, s, len(s), brief(u), e, brief(want))
	}
}

// refused holds Parse against bytes that are no datagram.
func refused(t *testing.T, src, dst uint32, s string, want api.Errno) {
	t.Helper()
	if u, e := udp.Parse(src, dst, s); u != (api.Udp{}) || e != want {
		t.Errorf("Parse(%x, %x, %.40x), %d bytes: %+v, %v, want %v", src, dst, s, len(s), brief(u), e, want)
	}
}

// P7.1: Check and Build, ordinary inputs, and the document's example: bodies of an even and of an odd number of bytes, none, NoSum.
func TestBuild(t *testing.T) {
	for _, x := range []struct {
		src, dst uint32
		u        api.Udp
		want     string
	}{
		{from, to, api.Udp{Src: 1, Dst: 2, NoSum: true, Body: "hi"}, "\x00\x01\x00\x02\x00\x0a\x00\x00\x68\x69"},
		{from, to, api.Udp{Src: 1, Dst: 2, Body: "hi"}, "\x00\x01\x00\x02\x00\x0a\x83\x6b\x68\x69"},
		{from, to, api.Udp{Src: 1, Dst: 2, Body: "hi\x00"}, "\x00\x01\x00\x02\x00\x0b\x83\x69\x68\x69\x00"},
		{from, to, api.Udp{Src: 1, Dst: 2, Body: "h"}, "\x00\x01\x00\x02\x00\x09\x83\xd6\x68"},
		{from, to, api.Udp{Src: 1, Dst: 2}, "\x00\x01\x00\x02\x00\x08\xeb\xd8"},
		{from, to, api.Udp{Src: 1, Dst: 2, NoSum: true}, "\x00\x01\x00\x02\x00\x08\x00\x00"},
		{from, to, api.Udp{NoSum: true, Body: "h"}, "\x00\x00\x00\x00\x00\x09\x00\x00\x68"},
		{0, 0, api.Udp{}, "\x00\x00\x00\x00\x00\x08\xff\xde"},
		{math.MaxUint32, math.MaxUint32, api.Udp{Src: 65535, Dst: 65535, Body: "\xff\xff"}, "\xff\xff\xff\xff\x00\x0a\xff\xda\xff\xff"},
		{0xc0a80102, 0xac10feff, api.Udp{Src: 0x1234, Dst: 0x12b5, Body: "body!"}, "\x12\x34\x12\xb5\x00\x0d\x86\x47\x62\x6f\x64\x79\x21"},
	} {
		expect(t, x.src, x.dst, x.u, x.want, api.OK)
		parsed(t, x.src, x.dst, x.want, x.u)
	}
}

// P7.1: each Src and each Dst of 0 to 65535 stands in a word of its own; others may not be.
func TestBuildPorts(t *testing.T) {
	for n := range 65536 {
		for _, bare := range []bool{false, true} {
			one, two := raw(n, 7, 9, "x"), raw(7, n, 9, "x")
			if !bare {
				one, two = sealed(from, to, one), sealed(from, to, two)
			}
			expect(t, from, to, api.Udp{Src: n, Dst: 7, NoSum: bare, Body: "x"}, one, api.OK)
			expect(t, from, to, api.Udp{Src: 7, Dst: n, NoSum: bare, Body: "x"}, two, api.OK)
		}
	}
	for _, n := range []int{math.MinInt, math.MinInt + 1, -1 << 32, -65537, -65536, -65535, -2, -1, 65536, 65537, 1 << 17, 1 << 31, 1 << 32, 1<<32 + 1, math.MaxInt} {
		for _, bare := range []bool{false, true} {
			expect(t, from, to, api.Udp{Src: n, Dst: 7, NoSum: bare, Body: "x"}, "", api.ErrUdpForm)
			expect(t, from, to, api.Udp{Src: 7, Dst: n, NoSum: bare, Body: "x"}, "", api.ErrUdpForm)
			expect(t, from, to, api.Udp{Src: n, Dst: n, NoSum: bare}, "", api.ErrUdpForm)
		}
	}
}

// P7.1: a body has at most 65507 bytes; the length told is 8 more.
func TestBuildBodies(t *testing.T) {
	for _, n := range []int{0, 1, 2, 3, 246, 247, 248, 249, 1472, 65505, 65506, 65507, 65508, 65509, 65527, 65528, 65535, 65536, 65537, 1 << 17, 1 << 20} {
		for _, bare := range []bool{false, true} {
			u := api.Udp{Src: 1, Dst: 2, NoSum: bare, Body: strings.Repeat("x", n)}
			if n > 65507 {
				expect(t, from, to, u, "", api.ErrUdpForm)
				continue
			}
			want := raw(1, 2, 8+n, u.Body)
			if !bare {
				want = sealed(from, to, want)
			}
			expect(t, from, to, u, want, api.OK)
			parsed(t, from, to, want, u)
			parsed(t, from, to, want+"behind", u)
		}
	}
}

// P7.1: all parts together, each at its edge or beyond it: one wrong part is enough, and several are no other error.
func TestCheckTogether(t *testing.T) {
	for _, src := range []int{-1, 0, 65535, 65536} {
		for _, dst := range []int{-1, 0, 65535, 65536} {
			for _, n := range []int{0, 65507, 65508} {
				for _, bare := range []bool{false, true} {
					u := api.Udp{Src: src, Dst: dst, NoSum: bare, Body: strings.Repeat("\x7f", n)}
					want, size := api.OK, 8+n
					if src < 0 || src > 65535 || dst < 0 || dst > 65535 || n > 65507 {
						want, size = api.ErrUdpForm, 0
					}
					if e := udp.Check(u); e != want {
						t.Errorf("Check: %d, %d, a body of %d: %v, want %v", src, dst, n, e, want)
					}
					if s, e := udp.Build(from, to, u); len(s) != size || e != want {
						t.Errorf("Build: %d, %d, a body of %d: %d bytes, %v, want %v", src, dst, n, len(s), e, want)
					}
				}
			}
		}
	}
}

// P7.1: the sum goes over both addresses, also at each bit of them.
func TestBuildAddresses(t *testing.T) {
	u := api.Udp{Src: 1, Dst: 2, Body: "hi!"}
	for bit := range 33 {
		ip := uint32(1) << bit // at 32 it is 0
		want := sealed(ip, to, raw(1, 2, 11, "hi!"))
		expect(t, ip, to, u, want, api.OK)
		parsed(t, ip, to, want, u)
		want = sealed(from, ip, raw(1, 2, 11, "hi!"))
		expect(t, from, ip, u, want, api.OK)
		parsed(t, from, ip, want, u)
		u.NoSum = true
		expect(t, ip, ^ip, u, raw(1, 2, 11, "hi!"), api.OK)
		u.NoSum = false
	}
}

// P7.1: a sum of 0 is told as 65535, and no other sum is; 0 is told of NoSum alone.
func TestBuildEachSum(t *testing.T) {
	zero := 0
	for n := range 65536 {
		u := api.Udp{Src: 1, Dst: 2, Body: word(n) + "\x80"}
		s, e := udp.Build(from, to, u)
		sum := due(from, to, s)
		if sum == 0 {
			zero++
			sum = 65535
		}
		if e != api.OK || s[6:8] != word(sum) {
			t.Fatalf("%x, %v, want %x", s, e, sum)
		}
		parsed(t, from, to, s, u)
	}
	if zero != 1 {
		t.Errorf("%d sums were 0", zero)
	}
	expect(t, 0, 0, api.Udp{Body: "\xff\xda"}, "\x00\x00\x00\x00\x00\x0a\xff\xff\xff\xda", api.OK)
	expect(t, 0, 0, api.Udp{NoSum: true, Body: "\xff\xda"}, "\x00\x00\x00\x00\x00\x0a\x00\x00\xff\xda", api.OK)
	parsed(t, 0, 0, "\x00\x00\x00\x00\x00\x0a\xff\xff\xff\xda", api.Udp{Body: "\xff\xda"})
	parsed(t, 0, 0, "\x00\x00\x00\x00\x00\x0a\x00\x00\xff\xda", api.Udp{NoSum: true, Body: "\xff\xda"})
}

// P7.2: each number of bytes below 8 is too few, also where what is there could never be right.
func TestParseShort(t *testing.T) {
	for _, s := range []string{
		raw(1, 2, 8, ""), raw(1, 2, 7, ""), raw(1, 2, 0, ""), raw(1, 2, 9, ""), raw(1, 2, 65535, ""),
		with(raw(1, 2, 8, ""), 6, "\x12\x34"), strings.Repeat("\x00", 8), strings.Repeat("\xff", 8),
	} {
		for n := range 8 {
			refused(t, from, to, s[:n], api.ErrUdpShort)
		}
	}
	parsed(t, from, to, raw(1, 2, 8, ""), api.Udp{Src: 1, Dst: 2, NoSum: true})
	parsed(t, from, to, raw(1, 2, 8, "x"), api.Udp{Src: 1, Dst: 2, NoSum: true})
}

// P7.2: each length told: of less than 8, of fewer bytes than there are, of as many, of one more, and of many more; with a sum and without one.
func TestParseEachLength(t *testing.T) {
	for _, have := range []int{8, 9, 10, 65, 1480} {
		body := some(source(), have-8)
		for n := range 65536 {
			s := raw(1, 2, n, body)
			switch {
			case n < 8:
				refused(t, from, to, s, api.ErrUdpForm)
			case n > have:
				refused(t, from, to, s, api.ErrUdpShort)
			default:
				u := api.Udp{Src: 1, Dst: 2, NoSum: true, Body: body[:n-8]}
				parsed(t, from, to, s, u)
				u.NoSum = false
				parsed(t, from, to, sealed(from, to, s[:n])+s[n:], u)
			}
		}
	}
}

// P7.2: the greatest length that can be told is parsed, though no datagram of it may be built.
func TestParseGreatest(t *testing.T) {
	for n := 65515; n < 65536; n++ {
		u := api.Udp{Src: 1, Dst: 2, NoSum: true, Body: strings.Repeat("x", n-8)}
		s := raw(1, 2, n, u.Body)
		parsed(t, from, to, s, u)
		parsed(t, from, to, s+"yz", u)
		refused(t, from, to, s[:n-1], api.ErrUdpShort)
		u.NoSum = false
		parsed(t, from, to, sealed(from, to, s)+"yz", u)
	}
}

// P7.2: each word where the sum stands: 0 is none, one alone is right, but where 0 is due, which 65535 tells.
func TestParseEachSum(t *testing.T) {
	base := raw(1, 2, 11, "hi!")
	right := due(from, to, base)
	zero := raw(0, 0, 10, "\xff\xda")
	for n := range 65536 {
		s, z := with(base, 6, word(n)), with(zero, 6, word(n))
		switch n {
		case 0:
			parsed(t, from, to, s, api.Udp{Src: 1, Dst: 2, NoSum: true, Body: "hi!"})
			parsed(t, 0, 0, z, api.Udp{NoSum: true, Body: "\xff\xda"})
			continue
		case right:
			parsed(t, from, to, s, api.Udp{Src: 1, Dst: 2, Body: "hi!"})
		default:
			refused(t, from, to, s, api.ErrUdpSum)
		}
		if n == 65535 {
			parsed(t, 0, 0, z, api.Udp{Body: "\xff\xda"})
		} else {
			refused(t, 0, 0, z, api.ErrUdpSum)
		}
	}
}

// P7.2: each bit that is spoilt is found, but without a sum, and but in bytes behind the length told.
func TestParseSpoilt(t *testing.T) {
	base := sealed(from, to, raw(0x1234, 0x12b5, 13, "body!"))
	for i := range 8 * len(base) {
		s := with(base, i/8, string([]byte{base[i/8] ^ 1<<(i%8)}))
		switch length := int(s[4])<<8 | int(s[5]); {
		case length < 8:
			refused(t, from, to, s, api.ErrUdpForm)
		case length > len(s):
			refused(t, from, to, s, api.ErrUdpShort)
		default:
			refused(t, from, to, s, api.ErrUdpSum)
		}
		if i/8 != 4 && i/8 != 5 {
			s = with(s, 6, "\x00\x00")
			parsed(t, from, to, s, api.Udp{Src: int(s[0])<<8 | int(s[1]), Dst: int(s[2])<<8 | int(s[3]), NoSum: true, Body: s[8:]})
		}
	}
	for i := range 256 {
		parsed(t, from, to, base+string([]byte{byte(i)}), api.Udp{Src: 0x1234, Dst: 0x12b5, Body: "body!"})
		parsed(t, from, to, base+string([]byte{0, byte(i)}), api.Udp{Src: 0x1234, Dst: 0x12b5, Body: "body!"})
	}
}

// P7.2: the sum is one between its addresses: others are told by it, but where there is none.
func TestParseOtherAddresses(t *testing.T) {
	for _, body := range []string{"", "x", "hi", strings.Repeat("\xff", 101)} {
		bare := raw(1, 2, 8+len(body), body)
		s := sealed(from, to, bare)
		for bit := range 32 {
			refused(t, from^1<<bit, to, s, api.ErrUdpSum)
			refused(t, from, to^1<<bit, s, api.ErrUdpSum)
			parsed(t, from^1<<bit, to, bare, api.Udp{Src: 1, Dst: 2, NoSum: true, Body: body})
			parsed(t, from, to^1<<bit, bare, api.Udp{Src: 1, Dst: 2, NoSum: true, Body: body})
		}
	}
}

// P7.2: the sum goes over the length told, not over the bytes there are, and over the protocol's number.
func TestParseSumOfWhat(t *testing.T) {
	for _, behind := range []string{"\x01", "ab", "abc"} {
		s := raw(1, 2, 10, "hi"+behind)
		over := due(from, to, s) // of all bytes, and of their number
		refused(t, from, to, with(s, 6, word(over)), api.ErrUdpSum)
		parsed(t, from, to, sealed(from, to, s[:10])+behind, api.Udp{Src: 1, Dst: 2, Body: "hi"})
	}
	s := raw(1, 2, 10, "hi")
	refused(t, from, to, with(s, 6, word(due(from, to, s)+17)), api.ErrUdpSum) // as if the protocol were 0
	refused(t, from, to, with(s, 6, word(due(from, to, s)+10)), api.ErrUdpSum) // as if there were no length in the head
	refused(t, from, to, with(s, 6, word(due(0, 0, s))), api.ErrUdpSum)        // as if there were no addresses
}

// P7.2: of two errors the first one is told: no head, a length that is too small, too few bytes, a wrong sum.
func TestParseFirstError(t *testing.T) {
	for _, sum := range []string{"\x00\x00", "\x00\x01", "\xff\xff"} {
		less, more := with(raw(1, 2, 7, ""), 6, sum), with(raw(1, 2, 9, ""), 6, sum)
		refused(t, from, to, less[:7], api.ErrUdpShort) // ahead of the length
		refused(t, from, to, more[:7], api.ErrUdpShort)
		refused(t, from, to, less, api.ErrUdpForm) // ahead of the sum
		refused(t, from, to, less+"body", api.ErrUdpForm)
		refused(t, from, to, more, api.ErrUdpShort) // ahead of the sum
	}
	refused(t, from, to, with(raw(1, 2, 9, "x"), 6, "\x00\x01"), api.ErrUdpSum)
	for n := range 8 { // a length below 8 is its own error, however few bytes there are beyond the head
		refused(t, from, to, raw(1, 2, n, ""), api.ErrUdpForm)
	}
}

// R4: what is parsed is new memory, and so is what is built.
func TestAnswersAreNew(t *testing.T) {
	s := raw(1, 2, 72, strings.Repeat("x", 64))
	u, e := udp.Parse(from, to, s)
	if e != api.OK || u.Body != s[8:] {
		t.Fatalf("%+v, %v", u, e)
	}
	if unsafe.StringData(u.Body) == unsafe.StringData(s[8:]) {
		t.Error("a body shares its memory with the bytes that it was parsed from")
	}
	b, e := udp.Build(from, to, u)
	if e != api.OK || b != s {
		t.Fatalf("%x, %v", b, e)
	}
	if unsafe.StringData(b[8:]) == unsafe.StringData(u.Body) {
		t.Error("bytes share their memory with the body that they were built from")
	}
}

// P7.3: what is built is parsed as it was, between the same addresses, whatever stands behind; the other way round is as good.
func TestBuiltIsParsed(t *testing.T) {
	next := source()
	odd, bare, none := 0, 0, 0
	for range 20000 {
		src, dst, u := uint32(next()>>10), uint32(next()>>10), datagram(next)
		s, e := udp.Build(src, dst, u)
		if len(s) != 8+len(u.Body) || e != api.OK || udp.Check(u) != api.OK {
			t.Fatalf("Build(%x, %x, %+v): %x, %v", src, dst, u, s, e)
		}
		if r, e := udp.Build(dst, src, u); r != s || e != api.OK {
			t.Fatalf("Build(%x, %x, %+v): %x, %v, want %x", dst, src, u, r, e, s)
		}
		for _, behind := range []string{"", some(next, int(next()>>30%40))} {
			parsed(t, src, dst, s+behind, u)
			parsed(t, dst, src, s+behind, u)
		}
		if len(u.Body)%2 == 1 {
			odd++
		}
		if u.NoSum {
			bare++
		}
		if u.Body == "" {
			none++
		}
	}
	if odd < 5000 || bare < 2000 || none < 100 {
		t.Errorf("only %d odd ones, %d without a sum and %d without a body were tried", odd, bare, none)
	}
}

// P7.3: what is parsed, and may be, is the bytes when it is built, but for those that are lost.
func TestParsedIsBuilt(t *testing.T) {
	next := source()
	fine := 0
	for range 20000 {
		src, dst := uint32(next()>>10), uint32(next()>>10)
		s := some(next, 4) + "\x00" + some(next, 1) + "\x00\x00" + some(next, int(next()>>30%256))
		if n := int(s[5]); n >= 8 && n <= len(s) && next()>>30%2 == 0 {
			s = sealed(src, dst, s[:n]) + s[n:]
		}
		u, e := udp.Parse(src, dst, s)
		if e != api.OK {
			continue
		}
		fine++
		if b, be := udp.Build(src, dst, u); b != s[:8+len(u.Body)] || be != api.OK || udp.Check(u) != api.OK {
			t.Fatalf("%x: %+v: %x, %v", s, u, b, be)
		}
	}
	if fine < 2000 {
		t.Errorf("only %d were parsed", fine)
	}
}

// R1: no bytes make a call panic, and beside an error there is nothing.
func TestParseAnything(t *testing.T) {
	next := source()
	seen := map[api.Errno]int{}
	for range 50000 {
		s := some(next, int(next()>>30%24))
		if len(s) > 5 && next()>>30%2 == 0 {
			s = with(s, 4, word(int(next()>>30%24)))
		}
		u, e := udp.Parse(uint32(next()>>10), uint32(next()>>10), s)
		if e != api.OK && u != (api.Udp{}) {
			t.Fatalf("%x: %+v, %v", s, u, e)
		}
		seen[e]++
	}
	if seen[api.ErrUdpShort] == 0 || seen[api.ErrUdpForm] == 0 || seen[api.ErrUdpSum] == 0 {
		t.Errorf("not each error was seen: %v", seen)
	}
}
