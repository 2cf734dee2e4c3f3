package inet_test

import (
	"math"
	"strings"
	"testing"
	"unsafe"

	"gangway/api"
	"gangway/csum"
	"gangway/inet"
)

// plain is the document's example: Ttl 64, Proto 17, 10.0.0.1 to 10.0.0.2, no body.
const plain = "\x45\x00\x00\x14\x00\x00\x00\x00\x40\x11\x66\xd7\x0a\x00\x00\x01\x0a\x00\x00\x02"

// example is the packet of plain.
func example() api.Ip {
	return api.Ip{Ttl: 64, Proto: 17, Src: 0x0a000001, Dst: 0x0a000002}
}

// various is a packet, each part of which is another one.
func various() api.Ip {
	return api.Ip{Tos: 0x12, Id: 0x3456, Whole: true, Off: 0x0789, Ttl: 0xab, Proto: 0xcd, Src: 0xc0a80102, Dst: 0xac10feff, Body: "body"}
}

// word is v as two bytes.
func word(v int) string { return string([]byte{byte(v >> 8), byte(v)}) }

// source answers numbers, the same ones in each run.
func source() func() uint64 {
	x := uint64(88172645463325252)
	return func() uint64 {
		x ^= x << 13
		x ^= x >> 7
		x ^= x << 17
		return x
	}
}

// some are n bytes.
func some(next func() uint64, n int) string {
	b := make([]byte, n)
	for i := range n {
		b[i] = byte(next() >> 20)
	}
	return string(b)
}

// packet is one that may be.
func packet(next func() uint64) api.Ip {
	return api.Ip{
		Tos: int(next() >> 30 % 256), Id: int(next() >> 30 % 65536),
		Whole: next()>>30%2 == 1, More: next()>>30%2 == 1, Off: int(next() >> 30 % 8192),
		Ttl: int(next() >> 30 % 256), Proto: int(next() >> 30 % 256),
		Src: uint32(next() >> 10), Dst: uint32(next() >> 10), Body: some(next, int(next()>>30%80)),
	}
}

// with is s with now in the place of as many bytes from at on.
func with(s string, at int, now string) string { return s[:at] + now + s[at+len(now):] }

// sealed is s with the checksum that its first twenty bytes must have.
func sealed(s string) string {
	n := 0
	for i := 0; i < 20; i += 2 {
		if i != 10 {
			n += int(s[i])<<8 | int(s[i+1])
		}
	}
	for n > 65535 {
		n = n&65535 + n>>16
	}
	return with(s, 10, word(65535-n))
}

// brief is a packet whose body is cut for a message.
func brief(p api.Ip) api.Ip {
	p.Body = p.Body[:min(len(p.Body), 20)]
	return p
}

// expect holds what Check and Build say of a packet against bytes and an error.
func expect(t *testing.T, p api.Ip, want string, wantE api.Errno) {
	t.Helper()
	if e := inet.Check(p); e != wantE {
		t.Errorf("Check(%+v), a body of %d: %v, want %v", brief(p), len(p.Body), e, wantE)
	}
	if s, e := inet.Build(p); s != want || e != wantE {
		t.Errorf("Build(%+v), a body of %d: %d bytes %.40x, %v, want %d bytes %.40x, %v", brief(p), len(p.Body), len(s), s, e, len(want), want, wantE)
	}
}

// parsed holds Parse against bytes that are a packet.
func parsed(t *testing.T, s string, want api.Ip) {
	t.Helper()
	if p, e := inet.Parse(s); p != want || e != api.OK {
		t.Errorf("Parse(%.40x), %d bytes: %+v, %v, want %+v", s, len(s), brief(p), e, brief(want))
	}
}

// refused holds Parse and Older against bytes that are no packet.
func refused(t *testing.T, s string, want api.Errno) {
	t.Helper()
	if p, e := inet.Parse(s); p != (api.Ip{}) || e != want {
		t.Errorf("Parse(%.40x), %d bytes: %+v, %v, want %v", s, len(s), brief(p), e, want)
	}
	if u, e := inet.Older(s); u != "" || e != want {
		t.Errorf("Older(%.40x), %d bytes: %.40x, %v, want %v", s, len(s), u, e, want)
	}
}

// P6.1: Check and Build, ordinary inputs, and the document's example: without a body, with one, one that is a part, the least and the greatest numbers.
func TestBuild(t *testing.T) {
	for _, x := range []struct {
		p    api.Ip
		want string
	}{
		{example(), plain},
		{various(), "\x45\x12\x00\x18\x34\x56\x47\x89\xab\xcd\x26\x6d\xc0\xa8\x01\x02\xac\x10\xfe\xffbody"},
		{api.Ip{}, "\x45\x00\x00\x14\x00\x00\x00\x00\x00\x00\xba\xeb\x00\x00\x00\x00\x00\x00\x00\x00"},
		{api.Ip{Whole: true, Ttl: 64, Proto: 17, Src: 0xc0a80001, Dst: 0xc0a800c7, Body: strings.Repeat("y", 0x5f)},
			"\x45\x00\x00\x73\x00\x00\x40\x00\x40\x11\xb8\x61\xc0\xa8\x00\x01\xc0\xa8\x00\xc7" + strings.Repeat("y", 0x5f)},
		{api.Ip{Id: 7, More: true, Off: 185, Ttl: 1, Proto: 1, Body: "\x00\xff"}, "\x45\x00\x00\x16\x00\x07\x20\xb9\x01\x01\x99\x28\x00\x00\x00\x00\x00\x00\x00\x00\x00\xff"},
		{api.Ip{Tos: 255, Id: 65535, Whole: true, More: true, Off: 8191, Ttl: 255, Proto: 255, Src: math.MaxUint32, Dst: math.MaxUint32},
			"\x45\xff\x00\x14\xff\xff\x7f\xff\xff\xff\x39\xed\xff\xff\xff\xff\xff\xff\xff\xff"},
	} {
		expect(t, x.p, x.want, api.OK)
		parsed(t, x.want, x.p)
	}
}

// P6.1: Tos, Ttl and Proto are 0 to 255, each in its own byte.
func TestBuildBytes(t *testing.T) {
	for _, x := range []struct {
		at  int
		set func(p *api.Ip, n int)
	}{
		{1, func(p *api.Ip, n int) { p.Tos = n }},
		{8, func(p *api.Ip, n int) { p.Ttl = n }},
		{9, func(p *api.Ip, n int) { p.Proto = n }},
	} {
		for _, n := range []int{math.MinInt, math.MinInt + 1, -1 << 32, -65536, -256, -255, -2, -1, 256, 257, 511, 512, 65535, 65536, 1 << 32, 1<<32 + 1, math.MaxInt} {
			p := various()
			x.set(&p, n)
			expect(t, p, "", api.ErrInetForm)
		}
		base, _ := inet.Build(various())
		for n := range 256 {
			p := various()
			x.set(&p, n)
			want := sealed(with(base, x.at, string([]byte{byte(n)})))
			expect(t, p, want, api.OK)
			parsed(t, want, p)
		}
	}
}

// P6.1: Id is 0 to 65535.
func TestBuildIds(t *testing.T) {
	for _, n := range []int{math.MinInt, math.MinInt + 1, -1 << 32, -65536, -65535, -2, -1, 65536, 65537, 1 << 17, 1 << 32, 1<<32 + 1, math.MaxInt} {
		p := various()
		p.Id = n
		expect(t, p, "", api.ErrInetForm)
	}
	base, _ := inet.Build(various())
	for n := range 65536 {
		p := various()
		p.Id = n
		expect(t, p, sealed(with(base, 4, word(n))), api.OK)
	}
}

// P6.1: Off is 0 to 8191, below Whole and More, each of which is with and without the other.
func TestBuildOffs(t *testing.T) {
	base, _ := inet.Build(various())
	for bits := range 4 {
		p := various()
		p.Whole, p.More = bits&2 != 0, bits&1 != 0
		for _, n := range []int{math.MinInt, math.MinInt + 1, -1 << 32, -65536, -8192, -8191, -2, -1, 8192, 8193, 16383, 16384, 32768, 65535, 65536, 1 << 32, 1<<32 + 1, math.MaxInt} {
			p.Off = n
			expect(t, p, "", api.ErrInetForm)
		}
		for n := range 8192 {
			p.Off = n
			want := sealed(with(base, 6, word(0x2000*bits+n)))
			expect(t, p, want, api.OK)
			parsed(t, want, p)
		}
	}
}

// P6.1: each address may be.
func TestBuildAddresses(t *testing.T) {
	for _, ip := range []uint32{0, 1, 0x0a000001, 0x7f000001, 0x80000000, 0xe0000001, math.MaxUint32 - 1, math.MaxUint32} {
		four := word(int(ip>>16)) + word(int(ip&0xffff))
		p := example()
		p.Src = ip
		expect(t, p, sealed(with(plain, 12, four)), api.OK)
		p = example()
		p.Dst = ip
		expect(t, p, sealed(with(plain, 16, four)), api.OK)
	}
}

// P6.1: a body has at most 65515 bytes; the length told is 20 more.
func TestBuildBodies(t *testing.T) {
	for _, n := range []int{0, 1, 2, 3, 235, 236, 1480, 1500, 1580, 8192, 65513, 65514, 65515, 65516, 65517, 65535, 65536, 65537, 1 << 17, 1 << 20} {
		p := example()
		p.Body = strings.Repeat("x", n)
		if n > 65515 {
			expect(t, p, "", api.ErrInetForm)
			continue
		}
		want := sealed(with(plain, 2, word(20+n))) + p.Body
		expect(t, p, want, api.OK)
		parsed(t, want, p)
		parsed(t, want+"behind", p)
	}
}

// P6.1: all parts together, each at its edge or beyond it: one wrong part is enough, and several are no other error.
func TestCheckTogether(t *testing.T) {
	bodies := []string{strings.Repeat("x", 65515), strings.Repeat("x", 65516)}
	for mask := range 1 << 6 {
		for _, below := range []bool{false, true} {
			part := func(i, last int) int {
				switch wrong := mask>>i&1 == 1; {
				case wrong && below:
					return -1
				case wrong:
					return last + 1
				case below:
					return 0
				}
				return last
			}
			p := api.Ip{Tos: part(0, 255), Ttl: part(1, 255), Proto: part(2, 255), Id: part(3, 65535), Off: part(4, 8191), Body: bodies[mask>>5]}
			want, size := api.ErrInetForm, 0
			if mask == 0 {
				want, size = api.OK, 65535
			}
			if e := inet.Check(p); e != want {
				t.Errorf("Check(%+v), a body of %d: %v, want %v", brief(p), len(p.Body), e, want)
			}
			if s, e := inet.Build(p); len(s) != size || e != want {
				t.Errorf("Build(%+v), a body of %d: %d bytes, %v, want %v", brief(p), len(p.Body), len(s), e, want)
			}
		}
	}
}

// P6.1: the checksum that is built goes over the twenty bytes alone, and is right; also where it is 0.
func TestBuildSums(t *testing.T) {
	zero := 0
	for id := range 65536 {
		p := example()
		p.Id, p.Body = id, "\x12\x34\x56"
		s, e := inet.Build(p)
		if e != api.OK || s != sealed(s) || !csum.Right(s[:20]) {
			t.Fatalf("%x, %v", s, e)
		}
		if s[10:12] == "\x00\x00" {
			zero++
		}
		if s[10:12] == "\xff\xff" { // only bytes that are all 0 have it
			t.Errorf("%x", s)
		}
	}
	if zero == 0 {
		t.Error("no checksum was 0")
	}
}

// P6.2: Parse, ordinary inputs: nothing behind, and bytes behind the length told, which are lost.
func TestParse(t *testing.T) {
	full := various()
	full.Body = strings.Repeat("z", 65515)
	for _, p := range []api.Ip{{}, example(), various(), full, {More: true}, {Off: 1, Body: "\x00"}, {Whole: true, Ttl: 255, Body: plain}} {
		s, _ := inet.Build(p)
		for _, behind := range []string{"", "\x00", "x", strings.Repeat("\x00", 26), plain, strings.Repeat("\xff", 70000)} {
			parsed(t, s+behind, p)
		}
	}
}

// P6.2: each number of bytes below 20 is too few, also where the first one is wrong, or what is there could never be right.
func TestParseShort(t *testing.T) {
	for _, s := range []string{plain, "\x46" + plain[1:], with(plain, 10, "\x00\x00"), sealed(with(plain, 2, "\x00\x00")), sealed(with(plain, 6, "\x80\x00")), strings.Repeat("\x00", 20), strings.Repeat("\xff", 20)} {
		for n := range 20 {
			refused(t, s[:n], api.ErrInetShort)
		}
	}
}

// P6.2: each first byte but 45 is wrong, with a right sum and with a wrong one.
func TestParseFirst(t *testing.T) {
	for n := range 256 {
		if n == 0x45 {
			continue
		}
		s := with(plain, 0, string([]byte{byte(n)}))
		refused(t, s, api.ErrInetForm)
		refused(t, sealed(s), api.ErrInetForm)
		refused(t, sealed(s)+strings.Repeat("x", 40), api.ErrInetForm)
	}
	parsed(t, sealed(plain), example())
}

// P6.2: each word where the sum stands: one alone is right, but for 0 and 65535, which are alike.
func TestParseEachSum(t *testing.T) {
	zero := sealed(with(plain, 4, "\x66\xd7"))
	if zero[10:12] != "\x00\x00" {
		t.Fatalf("%x", zero)
	}
	p := example()
	p.Id = 0x66d7
	for n := range 65536 {
		if n == 0x66d7 {
			parsed(t, with(plain, 10, word(n)), example())
		} else {
			refused(t, with(plain, 10, word(n)), api.ErrInetSum)
		}
		if n == 0 || n == 65535 {
			parsed(t, with(zero, 10, word(n)), p)
		} else {
			refused(t, with(zero, 10, word(n)), api.ErrInetSum)
		}
	}
}

// P6.2: each bit of the twenty bytes that is spoilt is found; those of the body are not the sum's.
func TestParseSpoilt(t *testing.T) {
	base, _ := inet.Build(various())
	for i := range 8 * len(base) {
		s := with(base, i/8, string([]byte{base[i/8] ^ 1<<(i%8)}))
		switch {
		case i < 8:
			refused(t, s, api.ErrInetForm)
		case i < 8*20:
			refused(t, s, api.ErrInetSum)
		default:
			p := various()
			p.Body = s[20:]
			parsed(t, s, p)
		}
	}
}

// P6.2: each length told: of less than 20, of fewer bytes than there are, of as many, of one more, and of many more.
func TestParseEachLength(t *testing.T) {
	for _, have := range []int{20, 21, 22, 64, 1580} {
		body := some(source(), have-20)
		for n := range 65536 {
			s := sealed(with(plain, 2, word(n))) + body
			switch {
			case n < 20:
				refused(t, s, api.ErrInetForm)
			case n > have:
				refused(t, s, api.ErrInetShort)
			default:
				p := example()
				p.Body = body[:n-20]
				parsed(t, s, p)
			}
		}
	}
	long := sealed(with(plain, 2, "\xff\xff")) + strings.Repeat("x", 65514)
	refused(t, long, api.ErrInetShort)
	p := example()
	p.Body = strings.Repeat("x", 65515)
	parsed(t, long+"x", p)
	parsed(t, long+"xy", p)
}

// P6.2: each word of the flags: the highest bit is 0, or it is a wrong form.
func TestParseEachFlags(t *testing.T) {
	for n := range 65536 {
		s := sealed(with(plain, 6, word(n)))
		if n >= 0x8000 {
			refused(t, s, api.ErrInetForm)
			continue
		}
		p := example()
		p.Whole, p.More, p.Off = n&0x4000 != 0, n&0x2000 != 0, n&0x1fff
		parsed(t, s, p)
	}
}

// P6.2: of two errors the first one is told: no head, a wrong first byte, a wrong sum, a wrong length or flag, too few bytes.
func TestParseFirstError(t *testing.T) {
	spoil := func(s string) string { return with(s, 10, string([]byte{s[10] ^ 1})) }
	first := func(s string) string { return with(s, 0, "\x65") }
	less, more := sealed(with(plain, 2, "\x00\x13")), sealed(with(plain, 2, "\x00\x15"))
	flag := sealed(with(plain, 6, "\x80\x00"))
	both, late := sealed(with(less, 6, "\xff\xff")), sealed(with(more, 6, "\x80\x00"))

	for _, s := range []string{less, more, flag, both, late, plain} {
		refused(t, first(s), api.ErrInetForm)         // ahead of the sum, and of all else
		refused(t, sealed(first(s)), api.ErrInetForm) // ahead of too few bytes
		refused(t, spoil(s), api.ErrInetSum)          // ahead of lengths and flags
		refused(t, first(spoil(s)), api.ErrInetForm)
		refused(t, first(spoil(s))[:19], api.ErrInetShort)
		refused(t, spoil(s)[:19], api.ErrInetShort)
		refused(t, s[:19], api.ErrInetShort)
	}
	refused(t, less, api.ErrInetForm)
	refused(t, flag, api.ErrInetForm)
	refused(t, both, api.ErrInetForm)
	refused(t, late, api.ErrInetForm) // ahead of too few bytes
	refused(t, more, api.ErrInetShort)
	refused(t, less+"x", api.ErrInetForm)
	refused(t, late+"x", api.ErrInetForm)
}

// R4: what is parsed is new memory.
func TestParseIsNew(t *testing.T) {
	s := sealed(with(plain, 2, word(84))) + strings.Repeat("x", 64)
	p, e := inet.Parse(s)
	if e != api.OK || p.Body != s[20:] {
		t.Fatalf("%+v, %v", p, e)
	}
	if unsafe.StringData(p.Body) == unsafe.StringData(s[20:]) {
		t.Error("a body shares its memory with the bytes that it was parsed from")
	}
}

// P6.3: Part: More, or Off above 0; nothing else makes a packet one, also of packets that may not be.
func TestPart(t *testing.T) {
	for _, off := range []int{math.MinInt, -8192, -1, 0, 1, 2, 8190, 8191, 8192, 65536, 1 << 32, math.MaxInt} {
		for _, more := range []bool{false, true} {
			for _, p := range []api.Ip{{}, example(), various(), {Tos: -1, Id: -1, Ttl: 256, Proto: 256}} {
				for _, whole := range []bool{false, true} {
					p.Off, p.More, p.Whole = off, more, whole
					if is := inet.Part(p); is != (more || off > 0) {
						t.Errorf("Part(%+v): %v", p, is)
					}
				}
			}
		}
	}
}

// P6.3: Older, ordinary inputs: without a body, with one, with bytes behind it, which stay.
func TestOlder(t *testing.T) {
	for s, want := range map[string]string{
		plain:            "\x45\x00\x00\x14\x00\x00\x00\x00\x3f\x11\x67\xd7\x0a\x00\x00\x01\x0a\x00\x00\x02",
		plain + "behind": "\x45\x00\x00\x14\x00\x00\x00\x00\x3f\x11\x67\xd7\x0a\x00\x00\x01\x0a\x00\x00\x02behind",
		"\x45\x12\x00\x18\x34\x56\x47\x89\xab\xcd\x26\x6d\xc0\xa8\x01\x02\xac\x10\xfe\xffbody":      "\x45\x12\x00\x18\x34\x56\x47\x89\xaa\xcd\x27\x6d\xc0\xa8\x01\x02\xac\x10\xfe\xffbody",
		"\x45\x12\x00\x18\x34\x56\x47\x89\xab\xcd\x26\x6d\xc0\xa8\x01\x02\xac\x10\xfe\xffbody\x00x": "\x45\x12\x00\x18\x34\x56\x47\x89\xaa\xcd\x27\x6d\xc0\xa8\x01\x02\xac\x10\xfe\xffbody\x00x",
	} {
		if u, e := inet.Older(s); u != want || e != api.OK {
			t.Errorf("Older(%x): %x, %v, want %x", s, u, e, want)
		}
	}
}

// P6.3: Older at each Ttl and each Proto: at 0 there is nothing older, whatever the Proto is; else the Proto stays.
func TestOlderTtls(t *testing.T) {
	for ttl := range 256 {
		for proto := range 256 {
			p := various()
			p.Ttl, p.Proto = ttl, proto
			s, _ := inet.Build(p)
			u, e := inet.Older(s + "x")
			if ttl == 0 {
				if u != "" || e != api.ErrInetForm {
					t.Errorf("Ttl 0, Proto %d: %x, %v", proto, u, e)
				}
				continue
			}
			p.Ttl--
			if want, _ := inet.Build(p); u != want+"x" || e != api.OK {
				t.Errorf("Ttl %d, Proto %d: %x, %v, want %x", ttl, proto, u, e, want)
			}
		}
	}
}

// P6.3: of bytes that are no packet Parse's error is told, also if Ttl is 0.
func TestOlderOfNone(t *testing.T) {
	for _, s := range []string{plain, with(plain, 8, "\x00")} {
		refused(t, "", api.ErrInetShort)
		refused(t, s[:19], api.ErrInetShort)
		refused(t, sealed("\x46"+s[1:]), api.ErrInetForm)
		refused(t, with(s, 10, "\x12\x34"), api.ErrInetSum)
		refused(t, sealed(with(s, 2, "\x00\x13")), api.ErrInetForm)
		refused(t, sealed(with(s, 6, "\x80\x00")), api.ErrInetForm)
		refused(t, sealed(with(s, 2, "\x00\x15")), api.ErrInetShort)
	}
}

// P6.3: the checksum is patched at each checksum there is, also where it wraps round, as csum.Patch says.
func TestOlderEachSum(t *testing.T) {
	seen := map[string]string{}
	for id := range 65536 {
		s := sealed(with(plain, 4, word(id)))
		u, e := inet.Older(s)
		if want := sealed(with(s, 8, "\x3f")); u != want || e != api.OK {
			t.Fatalf("Older(%x): %x, %v, want %x", s, u, e, want)
		}
		seen[s[10:12]] = u[10:12]
	}
	for old, now := range map[string]string{"\x00\x00": "\x01\x00", "\xfe\xfe": "\xff\xfe", "\xfe\xff": "\x00\x00", "\xff\x00": "\x00\x01", "\xff\xfe": "\x00\xff"} {
		if seen[old] != now {
			t.Errorf("%x became %x, want %x", old, seen[old], now)
		}
	}
	s := with(sealed(with(plain, 4, "\x66\xd7")), 10, "\xff\xff") // as right as 0 there
	if u, e := inet.Older(s); u != with(with(s, 8, "\x3f"), 10, "\x01\x00") || e != api.OK {
		t.Errorf("Older(%x): %x, %v", s, u, e)
	}
}

// P6.4: what is built is parsed as it was, whatever stands behind.
func TestBuiltIsParsed(t *testing.T) {
	next := source()
	parts, bare := 0, 0
	for range 20000 {
		p := packet(next)
		s, e := inet.Build(p)
		if len(s) != 20+len(p.Body) || e != api.OK || inet.Check(p) != api.OK {
			t.Fatalf("Build(%+v): %x, %v", p, s, e)
		}
		behind := some(next, int(next()>>30%40))
		if q, e := inet.Parse(s + behind); q != p || e != api.OK || inet.Part(q) != inet.Part(p) {
			t.Fatalf("%+v: %x, %x behind: %+v, %v", p, s, behind, q, e)
		}
		if inet.Part(p) {
			parts++
		}
		if p.Body == "" {
			bare++
		}
	}
	if parts < 5000 || bare < 100 {
		t.Errorf("only %d parts and %d without a body were tried", parts, bare)
	}
}

// P6.4: what is parsed may be, and, built, is the bytes, but for those that are lost.
func TestParsedIsBuilt(t *testing.T) {
	next := source()
	fine := 0
	for range 20000 {
		s := sealed("\x45"+some(next, 1)+"\x00"+some(next, 1)+some(next, 16)) + some(next, int(next()>>30%256))
		p, e := inet.Parse(s)
		if e != api.OK {
			continue
		}
		fine++
		if b, be := inet.Build(p); b != s[:20+len(p.Body)] || be != api.OK || inet.Check(p) != api.OK {
			t.Fatalf("%x: %+v: %x, %v", s, p, b, be)
		}
	}
	if fine < 2000 {
		t.Errorf("only %d were parsed", fine)
	}
}

// P6.4: what is older is right, and else the same, again and again until its Ttl is 0.
func TestOlderIsRight(t *testing.T) {
	next := source()
	for range 300 {
		p := packet(next)
		s, _ := inet.Build(p)
		s += some(next, int(next()>>30%40))
		for p.Ttl > 0 {
			u, e := inet.Older(s)
			p.Ttl--
			if q, pe := inet.Parse(u); e != api.OK || pe != api.OK || q != p || !csum.Right(u[:20]) {
				t.Fatalf("Older(%x): %x, %v; %+v, %v", s, u, e, q, pe)
			}
			if len(u) != len(s) || u[:8] != s[:8] || u[9] != s[9] || u[12:] != s[12:] {
				t.Fatalf("Older(%x): %x", s, u)
			}
			s = u
		}
		if u, e := inet.Older(s); u != "" || e != api.ErrInetForm {
			t.Fatalf("Older(%x): %x, %v", s, u, e)
		}
	}
}
