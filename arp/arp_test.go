package arp_test

import (
	"math"
	"strings"
	"testing"

	"gangway/api"
	"gangway/arp"
	"gangway/ether"
)

const (
	last  = 1<<48 - 1 // the greatest MAC address
	group = 1 << 40   // the lowest bit of a MAC address' first byte

	start = "\x00\x01\x08\x00\x06\x04"
	asked = start + "\x00\x01\x0a\x0b\x0c\x0d\x0e\x0f\xc0\xa8\x01\x02\x11\x22\x33\x44\x55\x66\xac\x10\xfe\xff"
	told  = start + "\x00\x02\x00\x00\x00\x00\x00\x06\x0a\x00\x00\x02\x00\x00\x00\x00\x00\x02\x0a\x00\x00\x01"
)

// asks is a message that asks, each byte of which is another one.
func asks() api.Arp {
	return api.Arp{Op: api.ArpAsks, SMac: 0x0a0b0c0d0e0f, SIp: 0xc0a80102, TMac: 0x112233445566, TIp: 0xac10feff}
}

// tells is the message of the document's example that tells.
func tells() api.Arp {
	return api.Arp{Op: api.ArpTells, SMac: 6, SIp: 0x0a000002, TMac: 2, TIp: 0x0a000001}
}

// macs are MAC addresses and greater numbers, and which of them are a host's.
func macs() map[uint64]bool {
	return map[uint64]bool{
		0: false, 1: true, 2: true, 6: true, 0xffffffffff: true,
		group: false, group + 1: false, 2 * group: true, 3 * group: false, 0xfe * group: true, 0xff * group: false,
		api.SpanGroup: false, last - group: true, last - 1: false, last: false,
		last + 1: false, last + 3: false, 1<<48 + 2*group: false, 1 << 49: false, 1 << 63: false, math.MaxUint64: false,
	}
}

// source answers numbers, the same ones in each run.
func source() func() uint64 {
	x := uint64(88172645463325252)
	return func() uint64 {
		x ^= x << 13
		x ^= x >> 7
		x ^= x << 17
		return x
	}
}

// some are n bytes.
func some(next func() uint64, n int) string {
	b := make([]byte, n)
	for i := range n {
		b[i] = byte(next() >> 20)
	}
	return string(b)
}

// host is a host's MAC address: neither many's nor 0.
func host(next func() uint64) uint64 {
	m := next() >> (16 + next()%40)
	return m&^group | 2
}

// message is one that may be.
func message(next func() uint64) api.Arp {
	return api.Arp{Op: 1 + int(next()>>40%2), SMac: host(next), SIp: uint32(next() >> 10), TMac: next() >> (16 + next()%48), TIp: uint32(next() >> 10)}
}

// expect holds what Check and Build say of a message against bytes and an error.
func expect(t *testing.T, a api.Arp, want string, wantE api.Errno) {
	t.Helper()
	if e := arp.Check(a); e != wantE {
		t.Errorf("Check(%+v): %v, want %v", a, e, wantE)
	}
	if s, e := arp.Build(a); s != want || e != wantE {
		t.Errorf("Build(%+v): %x, %v, want %x, %v", a, s, e, want, wantE)
	}
}

// allowed holds Check, Build and Parse against a message that may be, or, if not, has a wrong form.
func allowed(t *testing.T, a api.Arp, may bool) {
	t.Helper()
	if !may {
		expect(t, a, "", api.ErrArpForm)
		return
	}
	if e := arp.Check(a); e != api.OK {
		t.Errorf("Check(%+v): %v", a, e)
	}
	s, e := arp.Build(a)
	if b, pe := arp.Parse(s); len(s) != 28 || e != api.OK || b != a || pe != api.OK {
		t.Errorf("Build(%+v): %x, %v; Parse of it: %+v, %v", a, s, e, b, pe)
	}
}

// refused holds Parse against bytes that are no message.
func refused(t *testing.T, s string, want api.Errno) {
	t.Helper()
	if a, e := arp.Parse(s); a != (api.Arp{}) || e != want {
		t.Errorf("Parse(%x): %+v, %v, want %v", s, a, e, want)
	}
}

// P5.1: Check and Build, ordinary inputs: one that asks, one that tells, and the least and the greatest numbers.
func TestBuild(t *testing.T) {
	expect(t, asks(), asked, api.OK)
	expect(t, tells(), told, api.OK)
	expect(t, api.Arp{Op: 1, SMac: 1}, start+"\x00\x01"+strings.Repeat("\x00", 5)+"\x01"+strings.Repeat("\x00", 14), api.OK)
	expect(t, api.Arp{Op: 2, SMac: last - group, SIp: math.MaxUint32, TMac: last, TIp: math.MaxUint32}, start+"\x00\x02\xfe"+strings.Repeat("\xff", 19), api.OK)
}

// P5.1: Op is 1 or 2; others, also those whose lowest bytes are 1 or 2, are none.
func TestBuildOps(t *testing.T) {
	for _, n := range []int{math.MinInt, math.MinInt + 1, math.MinInt + 2, -1 << 32, -65535, -65534, -2, -1, 0, 1, 2, 3, 4, 255, 256, 257, 0x100, 0x200, 65535, 65536, 65537, 65538, 1<<32 + 1, math.MaxInt} {
		for _, a := range []api.Arp{asks(), tells()} {
			a.Op = n
			allowed(t, a, n == 1 || n == 2)
		}
	}
}

// P5.1: SMac is a host's: not 0, not many's, below 2^48.
func TestBuildSenders(t *testing.T) {
	for m, may := range macs() {
		for _, a := range []api.Arp{asks(), tells()} {
			a.SMac = m
			allowed(t, a, may)
		}
	}
}

// P5.1: TMac is below 2^48, a host's or not.
func TestBuildTargets(t *testing.T) {
	for m := range macs() {
		for _, a := range []api.Arp{asks(), tells()} {
			a.TMac = m
			allowed(t, a, m <= last)
		}
	}
}

// P5.1: each address may be.
func TestBuildAddresses(t *testing.T) {
	for _, ip := range []uint32{0, 1, 0x0a000001, 0x7f000001, 0x80000000, 0xe0000001, math.MaxUint32 - 1, math.MaxUint32} {
		for _, a := range []api.Arp{asks(), tells()} {
			a.SIp = ip
			allowed(t, a, true)
			a.SIp, a.TIp = 7, ip
			allowed(t, a, true)
		}
	}
}

// P5.1: Parse, ordinary inputs, with nothing behind and with more.
func TestParse(t *testing.T) {
	for s, want := range map[string]api.Arp{
		asked: asks(),
		told:  tells(),
		start + "\x00\x01" + strings.Repeat("\x00", 5) + "\x01" + strings.Repeat("\x00", 14): {Op: 1, SMac: 1},
		start + "\x00\x02\xfe" + strings.Repeat("\xff", 19):                                  {Op: 2, SMac: last - group, SIp: math.MaxUint32, TMac: last, TIp: math.MaxUint32},
	} {
		for _, behind := range []string{"", "\x00", "x", strings.Repeat("\x00", 18), told, strings.Repeat("\xff", 70000)} {
			if a, e := arp.Parse(s + behind); a != want || e != api.OK {
				t.Errorf("Parse(%x), %d behind: %+v, %v, want %+v", s, len(behind), a, e, want)
			}
		}
	}
}

// P5.1: each number of bytes below 28 is too few, also where the first six are others, or the message may not be.
func TestParseShort(t *testing.T) {
	for _, s := range []string{asked, told, "\x01" + told[1:], told[:7] + "\x03" + told[8:], told[:8] + "\x01" + told[9:], strings.Repeat("\x00", 28), strings.Repeat("\xff", 28)} {
		for n := range 28 {
			refused(t, s[:n], api.ErrArpShort)
		}
	}
}

// P5.1: each of the first six bytes is just what it is to be.
func TestParseStart(t *testing.T) {
	for i := range 6 {
		for b := range 256 {
			s := asked[:i] + string([]byte{byte(b)}) + asked[i+1:]
			if s == asked {
				continue
			}
			refused(t, s, api.ErrArpForm)
			refused(t, s+asked, api.ErrArpForm)
		}
	}
	refused(t, strings.Repeat("\x00", 28), api.ErrArpForm)
	refused(t, "x"+asked, api.ErrArpForm)
	refused(t, asked[6:]+asked, api.ErrArpForm)
}

// P5.1: each number where Op stands: 1 and 2 alone are parsed.
func TestParseEachOp(t *testing.T) {
	for n := range 1 << 16 {
		s := told[:6] + string([]byte{byte(n >> 8), byte(n)}) + told[8:]
		if n != 1 && n != 2 {
			refused(t, s, api.ErrArpForm)
			refused(t, s+"\x00", api.ErrArpForm)
			continue
		}
		want := tells()
		want.Op = n
		if a, e := arp.Parse(s); a != want || e != api.OK {
			t.Errorf("Parse(%x): %+v, %v, want %+v", s, a, e, want)
		}
	}
}

// P5.1: each first byte of SMac and of TMac: many's is no sender, but may be a target; nor is 0 a sender.
func TestParseMacs(t *testing.T) {
	for n := range 256 {
		b := string([]byte{byte(n)})
		s := asked[:8] + b + asked[9:]
		want := asks()
		want.SMac = uint64(n)<<40 | 0x0b0c0d0e0f
		if n%2 == 1 {
			refused(t, s, api.ErrArpForm)
		} else if a, e := arp.Parse(s); a != want || e != api.OK {
			t.Errorf("Parse(%x): %+v, %v, want %+v", s, a, e, want)
		}
		s = asked[:18] + b + asked[19:]
		want = asks()
		want.TMac = uint64(n)<<40 | 0x2233445566
		if a, e := arp.Parse(s); a != want || e != api.OK {
			t.Errorf("Parse(%x): %+v, %v, want %+v", s, a, e, want)
		}
	}
	refused(t, asked[:8]+strings.Repeat("\x00", 6)+asked[14:], api.ErrArpForm)
	refused(t, asked[:8]+strings.Repeat("\xff", 6)+asked[14:], api.ErrArpForm)
}

// P5.2: Ask, ordinary inputs, and the document's example.
func TestAsk(t *testing.T) {
	want := api.Frame{Dst: api.Broadcast, Src: 2, Type: api.TypeArp, Body: start + "\x00\x01\x00\x00\x00\x00\x00\x02\x0a\x00\x00\x01\x00\x00\x00\x00\x00\x00\x0a\x00\x00\x02"}
	if f := arp.Ask(2, 0x0a000001, 0x0a000002); f != want {
		t.Errorf("%+v, want %+v", f, want)
	}
	want = api.Frame{Dst: api.Broadcast, Src: 0x0a0b0c0d0e0f, Type: api.TypeArp, Body: start + "\x00\x01\x0a\x0b\x0c\x0d\x0e\x0f\xc0\xa8\x01\x02\x00\x00\x00\x00\x00\x00\xac\x10\xfe\xff"}
	f := arp.Ask(0x0a0b0c0d0e0f, 0xc0a80102, 0xac10feff)
	if f != want {
		t.Errorf("%+v, want %+v", f, want)
	}
	if s, e := ether.Build(f); len(s) != 42 || e != api.OK {
		t.Errorf("%x, %v", s, e)
	}
}

// P5.2: Ask of each MAC address, also of one that is no host's: its bytes are told, though nobody parses them.
func TestAskOfEachMac(t *testing.T) {
	for m, may := range macs() {
		six := make([]byte, 6)
		for i := range six {
			six[i] = byte(m >> (40 - 8*i))
		}
		want := api.Frame{Dst: api.Broadcast, Src: m, Type: api.TypeArp, Body: start + "\x00\x01" + string(six) + "\xff\xff\xff\xff\x00\x00\x00\x00\x00\x00\x00\x00\x00\x00"}
		f := arp.Ask(m, math.MaxUint32, 0)
		if f != want {
			t.Errorf("Ask(%#x): %+v, want %+v", m, f, want)
		}
		if m > last {
			continue // its lowest six bytes may well be a host's
		}
		a, is := arp.Of(f)
		if may && (a != api.Arp{Op: api.ArpAsks, SMac: m, SIp: math.MaxUint32} || !is) || !may && (a != api.Arp{} || is) {
			t.Errorf("Of(Ask(%#x)): %+v, %v", m, a, is)
		}
	}
}

// P5.2: Tell, ordinary inputs, and the document's example; what is asked may also name a target's MAC address.
func TestTell(t *testing.T) {
	a, _ := arp.Of(arp.Ask(2, 0x0a000001, 0x0a000002))
	want := api.Frame{Dst: 2, Src: 6, Type: api.TypeArp, Body: told}
	if f, e := arp.Tell(a, 6); f != want || e != api.OK {
		t.Errorf("%+v, %v, want %+v", f, e, want)
	}
	want = api.Frame{Dst: 0x0a0b0c0d0e0f, Src: 0x020304050607, Type: api.TypeArp, Body: start + "\x00\x02\x02\x03\x04\x05\x06\x07\xac\x10\xfe\xff\x0a\x0b\x0c\x0d\x0e\x0f\xc0\xa8\x01\x02"}
	for _, m := range []uint64{0, 0x112233445566, last} {
		a := asks()
		a.TMac = m
		f, e := arp.Tell(a, 0x020304050607)
		if f != want || e != api.OK {
			t.Errorf("%+v, %v, want %+v", f, e, want)
		}
		if s, e := ether.Build(f); len(s) != 42 || e != api.OK {
			t.Errorf("%x, %v", s, e)
		}
	}
}

// P5.2: Tell by each MAC address: by one that is no host's nothing is told.
func TestTellByEachMac(t *testing.T) {
	for m, may := range macs() {
		f, e := arp.Tell(asks(), m)
		if may && (f.Src != m || f.Dst != asks().SMac || len(f.Body) != 28 || e != api.OK) || !may && (f != api.Frame{} || e != api.ErrArpForm) {
			t.Errorf("Tell by %#x: %+v, %v", m, f, e)
		}
	}
}

// P5.2: Tell of messages that tell, and of those that may not be, by a host's MAC address and by another one.
func TestTellOfOthers(t *testing.T) {
	changes := []func(a *api.Arp){
		func(a *api.Arp) { *a = api.Arp{} },
		func(a *api.Arp) { *a = tells() },
		func(a *api.Arp) { a.Op = api.ArpTells },
		func(a *api.Arp) { a.Op = 0 },
		func(a *api.Arp) { a.Op = 3 },
		func(a *api.Arp) { a.Op = -1 },
		func(a *api.Arp) { a.Op = 65537 },
		func(a *api.Arp) { a.TMac = last + 1 },
		func(a *api.Arp) { a.TMac = math.MaxUint64 },
	}
	for m, may := range macs() {
		if !may {
			changes = append(changes, func(a *api.Arp) { a.SMac = m })
		}
	}
	for i, change := range changes {
		a := asks()
		change(&a)
		for _, m := range []uint64{6, 0, last, last + 1} {
			if f, e := arp.Tell(a, m); f != (api.Frame{}) || e != api.ErrArpForm {
				t.Errorf("%d: Tell(%+v, %#x): %+v, %v, want ErrArpForm", i, a, m, f, e)
			}
		}
	}
}

// P5.2: Of, ordinary inputs: with bytes behind the message, with a tag, whoever the frame itself is from and to.
func TestOf(t *testing.T) {
	for body, want := range map[string]api.Arp{asked: asks(), told: tells()} {
		for _, behind := range []string{"", "\x00", strings.Repeat("\x00", 18), asked, strings.Repeat("x", 2000)} {
			for _, f := range []api.Frame{
				{},
				{Dst: api.Broadcast, Src: 2},
				{Dst: 9, Src: 8, Tag: api.Tag{Has: true, Pri: 7, Dei: true, Vid: 5}},
				{Dst: math.MaxUint64, Src: math.MaxUint64, Tag: api.Tag{Vid: -1}},
			} {
				f.Type, f.Body = api.TypeArp, body+behind
				if a, is := arp.Of(f); a != want || !is {
					t.Errorf("Of(%.60v), %d behind: %+v, %v, want %+v", f, len(behind), a, is, want)
				}
			}
		}
	}
}

// P5.2: Of a frame of another type: none.
func TestOfOtherTypes(t *testing.T) {
	types := []int{math.MinInt, -api.TypeArp, -1, 1<<16 + api.TypeArp, 1<<32 + api.TypeArp, math.MaxInt}
	for n := range 1 << 16 {
		types = append(types, n)
	}
	for _, n := range types {
		if n == api.TypeArp {
			continue
		}
		if a, is := arp.Of(api.Frame{Dst: 2, Src: 6, Type: n, Body: told}); a != (api.Arp{}) || is {
			t.Errorf("type %#x: %+v, %v", n, a, is)
		}
	}
}

// P5.2: Of a frame whose body is no message: none.
func TestOfOtherBodies(t *testing.T) {
	for _, body := range []string{"", "x", told[:6], told[:27], "\x01" + told[1:], told[:5] + "\x05" + told[6:], told[:7] + "\x00" + told[8:], told[:7] + "\x03" + told[8:], told[:8] + "\x01" + told[9:], told[:13] + "\x00" + told[14:], "x" + told} {
		if a, is := arp.Of(api.Frame{Dst: 2, Src: 6, Type: api.TypeArp, Body: body}); a != (api.Arp{}) || is {
			t.Errorf("%x: %+v, %v", body, a, is)
		}
	}
}

// P5.3: what is built is parsed as it was, whatever stands behind.
func TestBuiltIsParsed(t *testing.T) {
	next := source()
	ops := [3]int{}
	for range 20000 {
		a := message(next)
		s, e := arp.Build(a)
		if len(s) != 28 || e != api.OK {
			t.Fatalf("Build(%+v): %x, %v", a, s, e)
		}
		behind := some(next, int(next()%40))
		if b, e := arp.Parse(s + behind); b != a || e != api.OK {
			t.Fatalf("%+v: %x, %x behind: %+v, %v", a, s, behind, b, e)
		}
		ops[a.Op]++
	}
	if ops[1] < 5000 || ops[2] < 5000 {
		t.Errorf("only %d that ask and %d that tell were tried", ops[1], ops[2])
	}
}

// P5.3: what is parsed may be, and, built, is the bytes that it was parsed from.
func TestParsedIsBuilt(t *testing.T) {
	next := source()
	fine := 0
	for range 20000 {
		s := start + "\x00" + string([]byte{byte(next() >> 30 % 4)}) + some(next, 20+int(next()%10))
		a, e := arp.Parse(s)
		if e != api.OK {
			continue
		}
		fine++
		if b, be := arp.Build(a); b != s[:28] || be != api.OK || arp.Check(a) != api.OK {
			t.Fatalf("%x: %+v: %x, %v", s, a, b, be)
		}
	}
	if fine < 2000 {
		t.Errorf("only %d were parsed", fine)
	}
}

// P5.3: what is told is told to who asked, of what was asked; also through frames' bytes that were filled up.
func TestToldToWhoAsked(t *testing.T) {
	next := source()
	for range 5000 {
		from, by := host(next), host(next)
		ip, want := uint32(next()>>10), uint32(next()>>10)
		s, e := ether.Build(arp.Ask(from, ip, want))
		if e != api.OK {
			t.Fatal(e)
		}
		f, _ := ether.Parse(s + strings.Repeat("\x00", 18))
		a, is := arp.Of(f)
		if !is || a != (api.Arp{Op: api.ArpAsks, SMac: from, SIp: ip, TIp: want}) {
			t.Fatalf("%x: %+v, %v", s, a, is)
		}
		g, e := arp.Tell(a, by)
		if e != api.OK || g.Dst != from || g.Src != by || g.Tag != (api.Tag{}) || g.Type != api.TypeArp {
			t.Fatalf("Tell(%+v, %#x): %+v, %v", a, by, g, e)
		}
		b, is := arp.Of(g)
		if !is || b != (api.Arp{Op: api.ArpTells, SMac: by, SIp: want, TMac: from, TIp: ip}) {
			t.Fatalf("Tell(%+v, %#x): %+v, %v", a, by, b, is)
		}
		if h, e := arp.Tell(b, from); h != (api.Frame{}) || e != api.ErrArpForm {
			t.Fatalf("what is told was told again: %+v, %v", h, e)
		}
	}
}
