package bpdu_test

import (
	"math"
	"strings"
	"testing"
	"unsafe"

	"gangway/api"
	"gangway/bpdu"
	"gangway/ether"
)

const (
	last  = 1<<48 - 1 // the greatest MAC address
	group = 1 << 40   // the lowest bit of a MAC address' first byte

	start = "\x42\x42\x03\x00\x00"

	changed = start + "\x00\x80"
	configs = start + "\x00\x00\x81" + numbers
	rapids  = start + "\x02\x02\xff" + numbers + "\x00"

	// What stands behind the flags: each byte is another one.
	numbers = "\x11\x12\x13\x14\x15\x16\x17\x18\x21\x22\x23\x24\x31\x32\x33\x34\x35\x36\x37\x38\x41\x42\x51\x52\x61\x62\x71\x72\x81\x82"
)

// change is the one message of BpduChange.
func change() api.Bpdu { return api.Bpdu{Kind: api.BpduChange} }

// config is a message of BpduConfig with both flags that it may have.
func config() api.Bpdu {
	return api.Bpdu{
		Kind: api.BpduConfig, Change: true, Ack: true,
		Root: 0x1112131415161718, Cost: 0x21222324, Bridge: 0x3132333435363738, Port: 0x4142, Age: 0x5152, MaxAge: 0x6162, Hello: 0x7172, Delay: 0x8182,
	}
}

// rapid is a message of BpduRapid with all flags.
func rapid() api.Bpdu {
	b := config()
	b.Kind, b.Propose, b.Learn, b.Forward, b.Agree, b.Role = api.BpduRapid, true, true, true, true, api.ToldDesignated
	return b
}

// longs are the messages of which more than their kind is told.
func longs() []api.Bpdu {
	return []api.Bpdu{config(), rapid(), {Kind: api.BpduConfig}, {Kind: api.BpduRapid}}
}

// flag is one of a message's fields that is yes or no, and its bit.
type flag struct {
	name string
	bit  int
	of   func(b *api.Bpdu) *bool
}

// flags are all of them.
func flags() []flag {
	return []flag{
		{"Change", 1, func(b *api.Bpdu) *bool { return &b.Change }},
		{"Propose", 2, func(b *api.Bpdu) *bool { return &b.Propose }},
		{"Learn", 16, func(b *api.Bpdu) *bool { return &b.Learn }},
		{"Forward", 32, func(b *api.Bpdu) *bool { return &b.Forward }},
		{"Agree", 64, func(b *api.Bpdu) *bool { return &b.Agree }},
		{"Ack", 128, func(b *api.Bpdu) *bool { return &b.Ack }},
	}
}

// words are a message's fields that have two bytes, in the order in which they stand, behind Bridge.
func words() []func(b *api.Bpdu) *int {
	return []func(b *api.Bpdu) *int{
		func(b *api.Bpdu) *int { return &b.Port },
		func(b *api.Bpdu) *int { return &b.Age },
		func(b *api.Bpdu) *int { return &b.MaxAge },
		func(b *api.Bpdu) *int { return &b.Hello },
		func(b *api.Bpdu) *int { return &b.Delay },
	}
}

// hosts are MAC addresses and greater numbers, and which of them are a host's.
func hosts() map[uint64]bool {
	return map[uint64]bool{
		0: false, 1: true, 2: true, 0x0a0b0c0d0e0f: true, 0xffffffffff: true,
		group: false, group + 2: false, 2 * group: true, 3 * group: false, 0xfe * group: true, 0xff * group: false,
		api.SpanGroup: false, last - group: true, last - 1: false, last: false,
		last + 1: false, last + 3: false, 1<<48 + 2*group: false, 1 << 49: false, 1 << 63: false, math.MaxUint64: false,
	}
}

// source answers numbers, the same ones in each run.
func source() func() uint64 {
	x := uint64(88172645463325252)
	return func() uint64 {
		x ^= x << 13
		x ^= x >> 7
		x ^= x << 17
		return x
	}
}

// some are n bytes.
func some(next func() uint64, n int) string {
	b := make([]byte, n)
	for i := range n {
		b[i] = byte(next() >> 20)
	}
	return string(b)
}

// message is one that may be, of any of the three kinds.
func message(next func() uint64) api.Bpdu {
	b := api.Bpdu{Kind: []int{api.BpduChange, api.BpduConfig, api.BpduRapid}[next()>>20%3]}
	if b.Kind == api.BpduChange {
		return b
	}
	b.Root, b.Bridge, b.Cost = next()>>(next()%64), next()>>(next()%64), int(next()>>(32+next()%32))
	for _, of := range words() {
		*of(&b) = int(next() >> (48 + next()%16))
	}
	for _, f := range flags() {
		*f.of(&b) = next()>>20%2 == 1 && (b.Kind == api.BpduRapid || f.bit == 1 || f.bit == 128)
	}
	if b.Kind == api.BpduRapid {
		b.Role = int(next() >> 20 % 4)
	}
	return b
}

// tail are the n lowest bytes of v.
func tail(v uint64, n int) string {
	b := make([]byte, n)
	for i := range n {
		b[i] = byte(v >> (8 * (n - 1 - i)))
	}
	return string(b)
}

// with is s with other bytes from a place on.
func with(s string, at int, v string) string { return s[:at] + v + s[at+len(v):] }

// model are the bytes that a message must have.
func model(b api.Bpdu) string {
	if b.Kind == api.BpduChange {
		return changed
	}
	v := 4 * b.Role
	for _, f := range flags() {
		if *f.of(&b) {
			v += f.bit
		}
	}
	s := start + "\x00\x00" + tail(uint64(v), 1) + tail(b.Root, 8) + tail(uint64(b.Cost), 4) + tail(b.Bridge, 8)
	for _, of := range words() {
		s += tail(uint64(*of(&b)), 2)
	}
	if b.Kind == api.BpduRapid {
		s = with(s, 5, "\x02\x02") + "\x00"
	}
	return s
}

// built holds Check, Build, Frame, Parse and Of against a message that may be, and its bytes.
func built(t *testing.T, b api.Bpdu, want string) {
	t.Helper()
	if e := bpdu.Check(b); e != api.OK {
		t.Errorf("Check(%+v): %v", b, e)
	}
	if s, e := bpdu.Build(b); s != want || e != api.OK {
		t.Errorf("Build(%+v): %x, %v, want %x", b, s, e, want)
	}
	f, e := bpdu.Frame(6, b)
	if f != (api.Frame{Dst: api.SpanGroup, Src: 6, Body: want}) || e != api.OK {
		t.Errorf("Frame(6, %+v): %#v, %v, want %x", b, f, e, want)
	}
	parsed(t, want, b)
}

// unbuilt holds Check, Build and Frame against a message that may not be.
func unbuilt(t *testing.T, b api.Bpdu) {
	t.Helper()
	if e := bpdu.Check(b); e != api.ErrBpduForm {
		t.Errorf("Check(%+v): %v", b, e)
	}
	if s, e := bpdu.Build(b); s != "" || e != api.ErrBpduForm {
		t.Errorf("Build(%+v): %x, %v", b, s, e)
	}
	for _, src := range []uint64{6, 0, last} {
		if f, e := bpdu.Frame(src, b); f != (api.Frame{}) || e != api.ErrBpduForm {
			t.Errorf("Frame(%#x, %+v): %#v, %v", src, b, f, e)
		}
	}
}

// allowed holds all calls against a message that may be, or, if not, has a wrong form.
func allowed(t *testing.T, b api.Bpdu, may bool) {
	t.Helper()
	if may {
		built(t, b, model(b))
	} else {
		unbuilt(t, b)
	}
}

// parsed holds Parse and Of against bytes that are a message.
func parsed(t *testing.T, s string, want api.Bpdu) {
	t.Helper()
	if b, e := bpdu.Parse(s); b != want || e != api.OK {
		t.Errorf("Parse(%d bytes %.60x): %+v, %v, want %+v", len(s), s, b, e, want)
	}
	if b, is := bpdu.Of(api.Frame{Dst: api.SpanGroup, Src: 2, Body: s}); b != want || !is {
		t.Errorf("Of a body of %d bytes %.60x: %+v, %v, want %+v", len(s), s, b, is, want)
	}
}

// refused holds Parse and Of against bytes that are none.
func refused(t *testing.T, s string, want api.Errno) {
	t.Helper()
	if b, e := bpdu.Parse(s); b != (api.Bpdu{}) || e != want {
		t.Errorf("Parse(%d bytes %.60x): %+v, %v, want %v", len(s), s, b, e, want)
	}
	if b, is := bpdu.Of(api.Frame{Dst: api.SpanGroup, Src: 2, Body: s}); b != (api.Bpdu{}) || is {
		t.Errorf("Of a body of %d bytes %.60x: %+v, %v", len(s), s, b, is)
	}
}

// P9.1: Check and Build, ordinary inputs: a message of each kind, the document's example, the least and the greatest numbers.
func TestBuild(t *testing.T) {
	built(t, change(), "\x42\x42\x03\x00\x00\x00\x80")
	built(t, config(), configs)
	built(t, rapid(), rapids)
	built(t, api.Bpdu{Kind: api.BpduConfig}, start+strings.Repeat("\x00", 33))
	built(t, api.Bpdu{}, start+strings.Repeat("\x00", 33))
	built(t, api.Bpdu{Kind: api.BpduRapid}, start+"\x02\x02"+strings.Repeat("\x00", 32))
	most := api.Bpdu{Root: math.MaxUint64, Cost: math.MaxUint32, Bridge: math.MaxUint64, Port: 65535, Age: 65535, MaxAge: 65535, Hello: 65535, Delay: 65535}
	built(t, most, start+"\x00\x00\x00"+strings.Repeat("\xff", 30))
	most.Kind = api.BpduRapid
	built(t, most, start+"\x02\x02\x00"+strings.Repeat("\xff", 30)+"\x00")
}

// P9.1: a kind is one of the three; others, also those whose lowest byte is one, are none.
func TestBuildKinds(t *testing.T) {
	kinds := []int{math.MinInt, math.MinInt + 2, -1 << 32, -256, -254, -128, -2, -1, 256, 258, 384, 0x202, 65536, 65538, 65664, 1<<32 + 2, 1<<32 + 128, math.MaxInt}
	for n := range 256 {
		kinds = append(kinds, n)
	}
	for _, n := range kinds {
		allowed(t, api.Bpdu{Kind: n}, n == api.BpduConfig || n == api.BpduRapid || n == api.BpduChange)
		b := config()
		b.Kind = n
		allowed(t, b, n == api.BpduConfig || n == api.BpduRapid)
		b = rapid()
		b.Kind = n
		allowed(t, b, n == api.BpduRapid)
	}
}

// P9.1: of BpduChange nothing else is told: each other field is 0, or no.
func TestBuildChange(t *testing.T) {
	ints := append(words(), func(b *api.Bpdu) *int { return &b.Role }, func(b *api.Bpdu) *int { return &b.Cost })
	for _, of := range ints {
		for _, n := range []int{math.MinInt, -1, 1, 3, 65535, 65536, 1 << 32, math.MaxInt} {
			b := change()
			*of(&b) = n
			allowed(t, b, false)
		}
	}
	for _, f := range flags() {
		b := change()
		*f.of(&b) = true
		allowed(t, b, false)
	}
	for _, n := range []uint64{1, 1 << 32, 1 << 63, math.MaxUint64} {
		b := change()
		b.Root = n
		allowed(t, b, false)
		b = change()
		b.Bridge = n
		allowed(t, b, false)
	}
}

// P9.1: Role is 0 to 3, of BpduConfig 0.
func TestBuildRoles(t *testing.T) {
	for _, n := range []int{math.MinInt, -1 << 32, -64, -5, -4, -3, -2, -1, 0, 1, 2, 3, 4, 5, 7, 8, 32, 63, 64, 255, 256, 1 << 32, 1 << 61, 1 << 62, math.MaxInt} {
		for _, b := range longs() {
			b.Role = n
			allowed(t, b, n == 0 || b.Kind == api.BpduRapid && n >= 0 && n <= 3)
		}
	}
}

// P9.1: Cost is 0 to 2^32 - 1.
func TestBuildCosts(t *testing.T) {
	for _, n := range []int{math.MinInt, -1 << 32, -2, -1, 0, 1, 255, 65536, 1<<24 - 1, 1 << 31, 1<<32 - 2, 1<<32 - 1, 1 << 32, 1<<32 + 1, 1 << 62, math.MaxInt} {
		for _, b := range longs() {
			b.Cost = n
			allowed(t, b, n >= 0 && n < 1<<32)
		}
	}
}

// P9.1: Port, Age, MaxAge, Hello and Delay are each 0 to 65535.
func TestBuildWords(t *testing.T) {
	for _, of := range words() {
		for _, n := range []int{math.MinInt, -65536, -2, -1, 0, 1, 255, 256, 32768, 65534, 65535, 65536, 65537, 1 << 32, math.MaxInt} {
			for _, b := range longs() {
				*of(&b) = n
				allowed(t, b, n >= 0 && n < 65536)
			}
		}
	}
}

// P9.1: bridges' numbers may be any.
func TestBuildBridges(t *testing.T) {
	for _, n := range []uint64{0, 1, 1<<48 - 1, 1 << 48, 1<<63 - 1, 1 << 63, math.MaxUint64 - 1, math.MaxUint64} {
		for _, b := range longs() {
			c := b
			b.Root, c.Bridge = n, n
			allowed(t, b, true)
			allowed(t, c, true)
		}
	}
}

// P9.1: each flag alone, and with each other one, and which of them BpduConfig may have.
func TestBuildFlags(t *testing.T) {
	for _, f := range flags() {
		b := api.Bpdu{Kind: api.BpduRapid}
		*f.of(&b) = true
		built(t, b, start+"\x02\x02"+tail(uint64(f.bit), 1)+strings.Repeat("\x00", 31))
		may := f.name == "Change" || f.name == "Ack"
		b.Kind = api.BpduConfig
		allowed(t, b, may)
		b = config()
		*f.of(&b) = true
		allowed(t, b, may)
	}
	for set := range 64 {
		for role := range 4 {
			b, c := rapid(), config()
			for i, f := range flags() {
				*f.of(&b), *f.of(&c) = set>>i&1 == 1, set>>i&1 == 1
			}
			b.Role, c.Role = role, role
			allowed(t, b, true)
			allowed(t, c, role == 0 && !c.Propose && !c.Learn && !c.Forward && !c.Agree)
		}
	}
}

// P9.1: each role has its bits.
func TestBuildEachRole(t *testing.T) {
	for role, bits := range map[int]string{api.ToldNone: "\x00", api.ToldBackup: "\x04", api.ToldRoot: "\x08", api.ToldDesignated: "\x0c"} {
		built(t, api.Bpdu{Kind: api.BpduRapid, Role: role}, start+"\x02\x02"+bits+strings.Repeat("\x00", 31))
	}
}

// P9.2: Parse, ordinary inputs, with nothing behind and with more.
func TestParse(t *testing.T) {
	for s, want := range map[string]api.Bpdu{
		changed:                            change(),
		configs:                            config(),
		rapids:                             rapid(),
		start + strings.Repeat("\x00", 33): {},
		start + "\x02\x02" + strings.Repeat("\x00", 32):     {Kind: api.BpduRapid},
		start + "\x02\x02\x3c" + strings.Repeat("\x00", 31): {Kind: api.BpduRapid, Role: 3, Learn: true, Forward: true},
	} {
		for _, behind := range []string{"", "\x00", "x", "xyz", strings.Repeat("\x00", 8), configs, rapids, strings.Repeat("\xff", 70000)} {
			parsed(t, s+behind, want)
		}
	}
}

// P9.2: less than seven bytes are too few, also where the first five are others: that is named first.
func TestParseShort(t *testing.T) {
	for _, s := range []string{changed, configs, rapids, "\x43" + changed[1:], start + "\x03\x02", strings.Repeat("\x00", 7), strings.Repeat("x", 7), strings.Repeat("\xff", 7)} {
		for n := range 7 {
			refused(t, s[:n], api.ErrBpduShort)
		}
	}
	parsed(t, changed, change())
}

// P9.2: of BpduConfig less than 38 bytes, of BpduRapid less than 39, are too few; of BpduChange seven are enough.
func TestParseShortOfLong(t *testing.T) {
	for n := 7; n < 60; n++ {
		s := configs + strings.Repeat("\xa5", 30)
		if n < 38 {
			refused(t, s[:n], api.ErrBpduShort)
		} else {
			parsed(t, s[:n], config())
		}
		s = rapids + strings.Repeat("\xa5", 30)
		if n < 39 {
			refused(t, s[:n], api.ErrBpduShort)
		} else {
			parsed(t, s[:n], rapid())
		}
		parsed(t, with(s[:n], 5, "\x00\x80"), change())
	}
}

// P9.2: each of the first five bytes is just what it is to be; that is told ahead of what is short behind it.
func TestParseStart(t *testing.T) {
	for i := range 5 {
		for c := range 256 {
			for _, s := range []string{changed, configs, configs[:37], configs[:7], rapids, rapids[:38], rapids[:7], rapids + "xyz", start + "\x03\x02"} {
				if o := with(s, i, tail(uint64(c), 1)); o != s {
					refused(t, o, api.ErrBpduForm)
				}
			}
		}
	}
	for _, s := range []string{strings.Repeat("x", 7), strings.Repeat("x", 40), strings.Repeat("\x00", 40), "x" + rapids, rapids[1:] + "\x00", rapids[5:] + rapids} {
		refused(t, s, api.ErrBpduForm)
	}
}

// P9.2: each two bytes behind the first five: three pairs are kinds, all others a wrong form, however few bytes there are.
func TestParseEachKind(t *testing.T) {
	for n := range 1 << 16 {
		s := with(rapids, 5, tail(uint64(n), 2))
		switch n {
		case 0x0080:
			parsed(t, s, change())
		case 0x0000:
			parsed(t, s, config())
		case 0x0202:
			parsed(t, s, rapid())
		default:
			refused(t, s, api.ErrBpduForm)
			refused(t, s[:38], api.ErrBpduForm)
			refused(t, s[:7], api.ErrBpduForm)
		}
	}
}

// P9.2: each byte of flags: of BpduRapid all count, of BpduConfig 1 and 128 alone, of BpduChange none.
func TestParseFlags(t *testing.T) {
	for n := range 256 {
		want := rapid()
		for _, f := range flags() {
			*f.of(&want) = n/f.bit%2 == 1
		}
		want.Role = n / 4 % 4
		parsed(t, with(rapids, 7, tail(uint64(n), 1)), want)
		less := config()
		less.Change, less.Ack = n%2 == 1, n >= 128
		parsed(t, with(configs, 7, tail(uint64(n), 1)), less)
		parsed(t, changed+tail(uint64(n), 1), change())
	}
}

// P9.2: the last byte of BpduRapid makes no difference.
func TestParseLastByte(t *testing.T) {
	for n := range 256 {
		parsed(t, rapids[:38]+tail(uint64(n), 1), rapid())
		parsed(t, rapids[:38]+tail(uint64(n), 1)+"xyz", rapid())
	}
}

// P9.2: each byte of the numbers is read at its own place.
func TestParseNumbers(t *testing.T) {
	next := source()
	for range 5000 {
		s := some(next, 30)
		var want api.Bpdu
		for i, c := range []byte(s) {
			switch {
			case i < 8:
				want.Root = want.Root*256 + uint64(c)
			case i < 12:
				want.Cost = want.Cost*256 + int(c)
			case i < 20:
				want.Bridge = want.Bridge*256 + uint64(c)
			default:
				of := words()[(i-20)/2](&want)
				*of = *of*256 + int(c)
			}
		}
		parsed(t, start+"\x00\x00\x00"+s, want)
		want.Kind = api.BpduRapid
		parsed(t, start+"\x02\x02\x00"+s+"\x00", want)
	}
}

// P9.3: Frame, ordinary inputs: it may be as a frame, and through its bytes, filled up, the message is as it was.
func TestFrame(t *testing.T) {
	for body, b := range map[string]api.Bpdu{changed: change(), configs: config(), rapids: rapid()} {
		for _, src := range []uint64{1, 2, 0x0a0b0c0d0e0f, last - group} {
			f, e := bpdu.Frame(src, b)
			if f != (api.Frame{Dst: 0x0180c2000000, Src: src, Body: body}) || e != api.OK {
				t.Errorf("Frame(%#x, %+v): %#v, %v", src, b, f, e)
			}
			s, e := ether.Build(f)
			if s != "\x01\x80\xc2\x00\x00\x00"+tail(src, 6)+tail(uint64(len(body)), 2)+body || e != api.OK {
				t.Errorf("%x, %v", s, e)
			}
			g, e := ether.Parse(s + strings.Repeat("\x00", 46-len(body)))
			if c, is := bpdu.Of(g); c != b || !is || e != api.OK {
				t.Errorf("Of(%#v): %+v, %v, %v, want %+v", g, c, is, e, b)
			}
		}
	}
}

// P9.3: Frame from each MAC address: from one that is no host's there is none.
func TestFrameFromEachMac(t *testing.T) {
	for m, may := range hosts() {
		for body, b := range map[string]api.Bpdu{changed: change(), configs: config(), rapids: rapid()} {
			f, e := bpdu.Frame(m, b)
			if may && (f != api.Frame{Dst: api.SpanGroup, Src: m, Body: body} || e != api.OK) || !may && (f != api.Frame{} || e != api.ErrBpduForm) {
				t.Errorf("Frame(%#x, %+v): %#v, %v", m, b, f, e)
			}
		}
	}
}

// P9.3: Of, ordinary inputs: whoever the frame is from, whatever stands behind the message.
func TestOf(t *testing.T) {
	for body, want := range map[string]api.Bpdu{changed: change(), configs: config(), rapids: rapid()} {
		for m := range hosts() {
			for _, behind := range []string{"", "\x00", strings.Repeat("x", 2000)} {
				if b, is := bpdu.Of(api.Frame{Dst: api.SpanGroup, Src: m, Body: body + behind}); b != want || !is {
					t.Errorf("from %#x, %x, %d behind: %+v, %v, want %+v", m, body, len(behind), b, is, want)
				}
			}
		}
	}
}

// none holds Of against frames that have no message, whatever their body is.
func none(t *testing.T, f api.Frame) {
	t.Helper()
	for _, body := range []string{changed, configs, rapids} {
		f.Body = body
		if b, is := bpdu.Of(f); b != (api.Bpdu{}) || is {
			t.Fatalf("Of(%#v): %+v, %v", f, b, is)
		}
	}
}

// P9.3: Of a frame to another address: none, also where it is a bridge's own, or has the same lowest bytes.
func TestOfOtherAddresses(t *testing.T) {
	for m := range hosts() {
		if m != api.SpanGroup {
			none(t, api.Frame{Dst: m, Src: 2})
		}
	}
	for bit := range 64 {
		none(t, api.Frame{Dst: api.SpanGroup ^ 1<<bit, Src: 2})
	}
	none(t, api.Frame{Dst: 2, Src: api.SpanGroup})
	none(t, api.Frame{Dst: api.SpanGroup + 15, Src: 2})
}

// P9.3: Of a frame with a tag: none, whatever tag it is.
func TestOfTags(t *testing.T) {
	for _, tag := range []api.Tag{{}, {Pri: 7}, {Dei: true}, {Vid: 1}, {Vid: 5}, {Pri: 7, Dei: true, Vid: 4095}} {
		tag.Has = true
		none(t, api.Frame{Dst: api.SpanGroup, Src: 2, Tag: tag})
	}
}

// P9.3: Of a frame of another type: none.
func TestOfOtherTypes(t *testing.T) {
	for _, n := range []int{math.MinInt, -1 << 32, -65536, -1, 1 << 16, 1 << 32, math.MaxInt} {
		none(t, api.Frame{Dst: api.SpanGroup, Src: 2, Type: n})
	}
	for n := 1; n < 1<<16; n++ {
		none(t, api.Frame{Dst: api.SpanGroup, Src: 2, Type: n})
	}
}

// P9.3: Of a frame whose body is no message: none.
func TestOfOtherBodies(t *testing.T) {
	for _, body := range []string{"", "x", start, changed[:6], configs[:37], rapids[:38], "\x43" + changed[1:], start + "\x03\x02", start + "\x00\x02" + rapids[7:], "x" + rapids, strings.Repeat("x", 40)} {
		if b, is := bpdu.Of(api.Frame{Dst: api.SpanGroup, Src: 2, Body: body}); b != (api.Bpdu{}) || is {
			t.Errorf("%x: %+v, %v", body, b, is)
		}
	}
}

// P9.4: what is built is parsed as it was, whatever stands behind.
func TestBuiltIsParsed(t *testing.T) {
	next := source()
	kinds := map[int]int{}
	for range 20000 {
		b := message(next)
		kinds[b.Kind]++
		s, e := bpdu.Build(b)
		if s != model(b) || e != api.OK {
			t.Fatalf("Build(%+v): %x, %v, want %x", b, s, e, model(b))
		}
		behind := some(next, int(next()>>20%50))
		if c, e := bpdu.Parse(s + behind); c != b || e != api.OK {
			t.Fatalf("%+v: %x, %x behind: %+v, %v", b, s, behind, c, e)
		}
		f, e := bpdu.Frame(2, b)
		f.Body += behind
		if c, is := bpdu.Of(f); c != b || !is || e != api.OK {
			t.Fatalf("%+v: %#v: %+v, %v, %v", b, f, c, is, e)
		}
	}
	for _, kind := range []int{api.BpduChange, api.BpduConfig, api.BpduRapid} {
		if kinds[kind] < 5000 {
			t.Errorf("only %d of kind %d were tried", kinds[kind], kind)
		}
	}
}

// P9.4: what is parsed may be, and, built, is parsed as it was.
func TestParsedIsBuilt(t *testing.T) {
	next := source()
	for range 20000 {
		kind := []string{"\x00\x80", "\x00\x00", "\x02\x02"}[next()>>20%3]
		s := start + kind + some(next, 32+int(next()>>20%10))
		b, e := bpdu.Parse(s)
		if e != api.OK || bpdu.Check(b) != api.OK {
			t.Fatalf("Parse(%x): %+v, %v, %v", s, b, e, bpdu.Check(b))
		}
		built(t, b, model(b))
	}
}

// P9.1, P9.3: the bytes of two answers share no memory, also where they are the same (R4).
func TestNewMemory(t *testing.T) {
	for _, b := range []api.Bpdu{change(), config(), rapid()} {
		s, _ := bpdu.Build(b)
		u, _ := bpdu.Build(b)
		f, _ := bpdu.Frame(2, b)
		g, _ := bpdu.Frame(2, b)
		seen := map[*byte]bool{}
		for _, x := range []string{s, u, f.Body, g.Body} {
			seen[unsafe.StringData(x)] = true
		}
		if len(seen) != 4 {
			t.Errorf("%+v: two answers share their bytes", b)
		}
	}
}
