package ether_test

import (
	"math"
	"strings"
	"testing"
	"unsafe"

	"gangway/api"
	"gangway/ether"
)

const (
	last = 1<<48 - 1 // the greatest MAC address
	head = "\xff\xff\xff\xff\xff\xff\x00\x00\x00\x00\x00\x02"
)

// base is a frame that may be: to all, from 2, with neither a tag nor a body.
func base() api.Frame { return api.Frame{Dst: api.Broadcast, Src: 2, Type: api.TypeArp} }

// sized is a frame that may be but for its body: of that type, with that tag, with a body of n bytes.
func sized(kind int, tag api.Tag, n int) api.Frame {
	return api.Frame{Dst: api.Broadcast, Src: 2, Tag: tag, Type: kind, Body: strings.Repeat("x", n)}
}

// vid is a tag of that VLAN.
func vid(n int) api.Tag { return api.Tag{Has: true, Vid: n} }

// word is v as two bytes.
func word(v int) string { return string([]byte{byte(v >> 8), byte(v)}) }

// source answers numbers, the same ones in each run.
func source() func() uint64 {
	x := uint64(88172645463325252)
	return func() uint64 {
		x ^= x << 13
		x ^= x >> 7
		x ^= x << 17
		return x
	}
}

// some are n bytes.
func some(next func() uint64, n int) string {
	b := make([]byte, n)
	for i := range n {
		b[i] = byte(next() >> 20)
	}
	return string(b)
}

// expect holds what Check and Build say of a frame against an error and bytes.
func expect(t *testing.T, f api.Frame, want string, wantE api.Errno) {
	t.Helper()
	if e := ether.Check(f); e != wantE {
		t.Errorf("Check(%+.40v), a body of %d: %v, want %v", f, len(f.Body), e, wantE)
	}
	if s, e := ether.Build(f); s != want || e != wantE {
		t.Errorf("Build(%+.40v), a body of %d: %d bytes %.40x, %v, want %d bytes %.40x, %v", f, len(f.Body), len(s), s, e, len(want), want, wantE)
	}
}

// allowed holds Check and Build against a frame that may be, or, if not, has a wrong form.
func allowed(t *testing.T, f api.Frame, may bool) {
	t.Helper()
	if !may {
		expect(t, f, "", api.ErrEtherForm)
		return
	}
	if e := ether.Check(f); e != api.OK {
		t.Errorf("Check(%+.40v): %v", f, e)
	}
	if s, e := ether.Build(f); len(s) < 14 || e != api.OK {
		t.Errorf("Build(%+.40v): %x, %v", f, s, e)
	}
}

// P4.1: Check and Build, ordinary inputs, and the document's example: with a tag and without one, with a type and with a length.
func TestBuild(t *testing.T) {
	const a, b = 0x0180c2000001, 0x0a0b0c0d0e0f
	const ab = "\x01\x80\xc2\x00\x00\x01\x0a\x0b\x0c\x0d\x0e\x0f"
	for _, x := range []struct {
		f    api.Frame
		want string
	}{
		{base(), "\xff\xff\xff\xff\xff\xff\x00\x00\x00\x00\x00\x02\x08\x06"},
		{api.Frame{}, strings.Repeat("\x00", 14)},
		{api.Frame{Dst: a, Src: b, Type: 0x0800, Body: "body"}, ab + "\x08\x00body"},
		{api.Frame{Dst: a, Src: b, Type: 0x86dd, Body: "\x00\xff"}, ab + "\x86\xdd\x00\xff"},
		{api.Frame{Dst: a, Src: b, Body: "\x42\x42\x03"}, ab + "\x00\x03\x42\x42\x03"},
		{api.Frame{Dst: a, Src: b, Body: strings.Repeat("y", 0x123)}, ab + "\x01\x23" + strings.Repeat("y", 0x123)},
		{api.Frame{Dst: a, Src: b, Tag: vid(5), Type: 0x0800, Body: "body"}, ab + "\x81\x00\x00\x05\x08\x00body"},
		{api.Frame{Dst: a, Src: b, Tag: vid(0x123), Body: "body"}, ab + "\x81\x00\x01\x23\x00\x04body"},
		{api.Frame{Dst: a, Src: b, Tag: vid(0)}, ab + "\x81\x00\x00\x00\x00\x00"},
		{api.Frame{Dst: a, Src: b, Tag: api.Tag{Has: true, Pri: 1}, Type: 0x0806}, ab + "\x81\x00\x20\x00\x08\x06"},
		{api.Frame{Dst: a, Src: b, Tag: api.Tag{Has: true, Dei: true}, Type: 0x0806}, ab + "\x81\x00\x10\x00\x08\x06"},
		{api.Frame{Dst: a, Src: b, Tag: api.Tag{Has: true, Pri: 5, Dei: true, Vid: 0xabc}, Type: 0x0806}, ab + "\x81\x00\xba\xbc\x08\x06"},
		{api.Frame{Dst: a, Src: b, Tag: api.Tag{Has: true, Pri: 5, Vid: 0xabc}, Type: 0x0806}, ab + "\x81\x00\xaa\xbc\x08\x06"},
		{api.Frame{Dst: a, Src: b, Tag: api.Tag{Has: true, Pri: 7, Dei: true, Vid: 4095}, Type: 0xffff, Body: "z"}, ab + "\x81\x00\xff\xff\xff\xffz"},
	} {
		expect(t, x.f, x.want, api.OK)
	}
}

// P4.1: addresses, at 2^48 - 1, at 2^48 and beyond.
func TestBuildAddresses(t *testing.T) {
	for _, m := range []uint64{0, 1, 2, 1 << 40, 1 << 47, last - 1, last, last + 1, last + 2, 1 << 49, 1<<49 - 1, 1 << 63, math.MaxUint64} {
		f := base()
		f.Dst = m
		allowed(t, f, m <= last)
		f = base()
		f.Src = m
		allowed(t, f, m <= last)
	}
	expect(t, api.Frame{Dst: last, Type: 0x600}, strings.Repeat("\xff", 6)+strings.Repeat("\x00", 6)+"\x06\x00", api.OK)
	expect(t, api.Frame{Src: last, Type: 0x600}, strings.Repeat("\x00", 6)+strings.Repeat("\xff", 6)+"\x06\x00", api.OK)
}

// P4.1: a tag's priority is 0 to 7, its VLAN 0 to 4095.
func TestBuildTags(t *testing.T) {
	for _, n := range []int{math.MinInt, math.MinInt + 1, -1 << 32, -4096, -8, -1, 0, 1, 3, 6, 7, 8, 9, 15, 16, 255, 1 << 16, 1 << 51, 1 << 61, math.MaxInt} {
		for _, dei := range []bool{false, true} {
			f := base()
			f.Tag = api.Tag{Has: true, Pri: n, Dei: dei, Vid: 5}
			allowed(t, f, n >= 0 && n <= 7)
		}
	}
	for _, n := range []int{math.MinInt, math.MinInt + 1, -1 << 32, -4096, -4095, -1, 0, 1, 4093, 4094, 4095, 4096, 4097, 8191, 8192, 65535, 65536, 1 << 32, math.MaxInt} {
		for _, dei := range []bool{false, true} {
			f := base()
			f.Tag = api.Tag{Has: true, Pri: 3, Dei: dei, Vid: n}
			allowed(t, f, n >= 0 && n <= 4095)
		}
	}
}

// P4.1: a tag without Has is empty, or none.
func TestBuildTagsWithoutHas(t *testing.T) {
	for _, tag := range []api.Tag{
		{Pri: 1}, {Pri: 7}, {Pri: 8}, {Pri: -1}, {Pri: math.MinInt}, {Dei: true},
		{Vid: 1}, {Vid: 4095}, {Vid: 4096}, {Vid: -1}, {Vid: math.MaxInt}, {Pri: 1, Dei: true, Vid: 1},
	} {
		f := base()
		f.Tag = tag
		allowed(t, f, false)
	}
	allowed(t, base(), true)
}

// P4.1: each number as a type, also below 0 and beyond two bytes, with a tag and without one.
func TestBuildEachType(t *testing.T) {
	tried := []int{math.MinInt, math.MinInt + 0x800, -1 << 32, 1<<32 + 0x800, 1 << 32, math.MaxInt - 0x800, math.MaxInt}
	for n := -70000; n <= 140000; n++ {
		tried = append(tried, n)
	}
	for _, n := range tried {
		may := n == 0 || n >= 0x600 && n <= 0xffff && n != 0x8100
		f := base()
		f.Type = n
		if !may {
			allowed(t, f, false)
			allowed(t, ether.Tagged(f, vid(5)), false)
			continue
		}
		expect(t, f, head+word(n), api.OK)
		expect(t, ether.Tagged(f, vid(5)), head+"\x81\x00\x00\x05"+word(n), api.OK)
	}
}

// P4.1: bodies with a length, up to 1500 bytes and beyond, and beyond what a frame may have; with a tag and without one.
func TestBuildLengths(t *testing.T) {
	for n := range 1700 {
		body := strings.Repeat("x", n)
		if n <= 1500 {
			expect(t, sized(0, api.Tag{}, n), head+word(n)+body, api.OK)
			expect(t, sized(0, vid(9), n), head+"\x81\x00\x00\x09"+word(n)+body, api.OK)
			continue
		}
		expect(t, sized(0, api.Tag{}, n), "", api.ErrEtherShort)
		expect(t, sized(0, vid(9), n), "", api.ErrEtherShort)
	}
	expect(t, sized(0, api.Tag{}, 0x10000+5), "", api.ErrEtherShort) // its lowest two bytes would be a length
}

// P4.1: frames of 1600 bytes and of 1601; with a tag and without one.
func TestBuildSizes(t *testing.T) {
	for _, n := range []int{0, 1, 1499, 1500, 1501, 1581, 1582, 1583, 1585, 1586, 1587, 1588, 1600, 1601, 65536, 1 << 20} {
		body := strings.Repeat("x", n)
		for _, x := range []struct {
			tag  api.Tag
			head string
		}{{api.Tag{}, head}, {vid(9), head + "\x81\x00\x00\x09"}} {
			for _, kind := range []int{0x600, 0x800, 0xffff} {
				want := x.head + word(kind) + body
				if len(want) > 1600 {
					expect(t, sized(kind, x.tag, n), "", api.ErrEtherForm)
					continue
				}
				expect(t, sized(kind, x.tag, n), want, api.OK)
			}
		}
	}
	for _, x := range []struct {
		tag api.Tag
		n   int
	}{{api.Tag{}, 1586}, {vid(9), 1582}} {
		if s, e := ether.Build(sized(0x800, x.tag, x.n)); len(s) != 1600 || e != api.OK {
			t.Errorf("%d bytes, %v", len(s), e)
		}
	}
}

// P4.1: of two errors the first one is told: a wrong form of what stands in the head, a body too long for its length, a frame too long.
func TestBuildFirstError(t *testing.T) {
	for _, n := range []int{1501, 1586, 1587, 5000} {
		fine := sized(0, api.Tag{}, n)
		expect(t, fine, "", api.ErrEtherShort)
		for _, change := range []func(f *api.Frame){
			func(f *api.Frame) { f.Dst = last + 1 },
			func(f *api.Frame) { f.Src = last + 1 },
			func(f *api.Frame) { f.Tag = api.Tag{Vid: 1} },
			func(f *api.Frame) { f.Tag = api.Tag{Dei: true} },
			func(f *api.Frame) { f.Tag = api.Tag{Has: true, Pri: 8} },
			func(f *api.Frame) { f.Tag = vid(4096) },
			func(f *api.Frame) { f.Type = 1 },
			func(f *api.Frame) { f.Type = 1501 },
			func(f *api.Frame) { f.Type = -1 },
			func(f *api.Frame) { f.Type = api.TypeTag },
		} {
			f := fine
			change(&f)
			expect(t, f, "", api.ErrEtherForm)
		}
	}
}

// P4.1: all fields together: what Check says hangs on them as the document says.
func TestCheckTogether(t *testing.T) {
	for _, dst := range []uint64{0, last, last + 1} {
		for _, src := range []uint64{0, last, last + 1} {
			for _, tag := range []api.Tag{{}, vid(0), vid(4095), {Has: true, Pri: 7, Dei: true}, {Has: true, Pri: 8}, {Vid: 1}} {
				for _, kind := range []int{0, -1, 1, 0x5ff, 0x600, 0x8100, 0xffff, 0x10000} {
					for _, n := range []int{0, 1, 1500, 1501, 1582, 1583, 1586, 1587} {
						f := api.Frame{Dst: dst, Src: src, Tag: tag, Type: kind, Body: strings.Repeat("x", n)}
						whole := 14 + n
						if tag.Has {
							whole += 4
						}
						want := api.OK
						if whole > 1600 {
							want = api.ErrEtherForm
						}
						if kind == 0 && n > 1500 {
							want = api.ErrEtherShort
						}
						if dst > last || src > last || tag.Pri == 8 || tag.Vid == 1 || kind == -1 || kind == 1 || kind == 0x5ff || kind == 0x8100 || kind == 0x10000 {
							want = api.ErrEtherForm
						}
						_, e := ether.Build(f)
						if c := ether.Check(f); c != want || e != want {
							t.Errorf("%+.20v, a body of %d: %v, %v, want %v", f, n, c, e, want)
						}
					}
				}
			}
		}
	}
}

// P4.2: Parse, ordinary inputs: with a tag and without one, with a type and with a length.
func TestParse(t *testing.T) {
	const a, b = 0x0180c2000001, 0x0a0b0c0d0e0f
	const ab = "\x01\x80\xc2\x00\x00\x01\x0a\x0b\x0c\x0d\x0e\x0f"
	for _, x := range []struct {
		s    string
		want api.Frame
	}{
		{head + "\x08\x06", base()},
		{strings.Repeat("\x00", 14), api.Frame{}},
		{strings.Repeat("\xff", 14), api.Frame{Dst: last, Src: last, Type: 0xffff}},
		{ab + "\x08\x00body", api.Frame{Dst: a, Src: b, Type: 0x0800, Body: "body"}},
		{ab + "\x00\x04body", api.Frame{Dst: a, Src: b, Body: "body"}},
		{ab + "\x00\x00body", api.Frame{Dst: a, Src: b}},
		{ab + "\x00\x03body", api.Frame{Dst: a, Src: b, Body: "bod"}},
		{ab + "\x81\x00\x00\x05\x08\x00body", api.Frame{Dst: a, Src: b, Tag: vid(5), Type: 0x0800, Body: "body"}},
		{ab + "\x81\x00\x00\x05\x00\x04body", api.Frame{Dst: a, Src: b, Tag: vid(5), Body: "body"}},
		{ab + "\x81\x00\x00\x05\x00\x01body", api.Frame{Dst: a, Src: b, Tag: vid(5), Body: "b"}},
		{ab + "\x81\x00\x00\x00\x00\x00", api.Frame{Dst: a, Src: b, Tag: vid(0)}},
		{ab + "\x81\x00\x20\x00\x08\x06", api.Frame{Dst: a, Src: b, Tag: api.Tag{Has: true, Pri: 1}, Type: 0x0806}},
		{ab + "\x81\x00\x10\x00\x08\x06", api.Frame{Dst: a, Src: b, Tag: api.Tag{Has: true, Dei: true}, Type: 0x0806}},
		{ab + "\x81\x00\xba\xbc\x08\x06", api.Frame{Dst: a, Src: b, Tag: api.Tag{Has: true, Pri: 5, Dei: true, Vid: 0xabc}, Type: 0x0806}},
		{ab + "\x81\x00\xff\xff\xff\xff", api.Frame{Dst: a, Src: b, Tag: api.Tag{Has: true, Pri: 7, Dei: true, Vid: 4095}, Type: 0xffff}},
		{ab + "\x81\x00\x81\x00\x08\x00body", api.Frame{Dst: a, Src: b, Tag: api.Tag{Has: true, Pri: 4, Vid: 0x100}, Type: 0x0800, Body: "body"}},
		{ab + "\x08\x00\x81\x00\x00\x05\x81\x00", api.Frame{Dst: a, Src: b, Type: 0x0800, Body: "\x81\x00\x00\x05\x81\x00"}},
		{ab + "\x81\x01\x00\x05\x81\x00", api.Frame{Dst: a, Src: b, Type: 0x8101, Body: "\x00\x05\x81\x00"}},
	} {
		if f, e := ether.Parse(x.s); f != x.want || e != api.OK {
			t.Errorf("Parse(%x): %+v, %v, want %+v", x.s, f, e, x.want)
		}
	}
}

// P4.2: too few bytes for a head: each number of them, without a tag, and with one.
func TestParseShort(t *testing.T) {
	for _, x := range []struct {
		s     string
		least int
	}{
		{head + "\x08\x00", 14},
		{head + "\x00\x00", 14},
		{head + "\x81\x00\x00\x05\x08\x00", 18},
		{head + "\x81\x00\x00\x05\x00\x00", 18},
		{strings.Repeat("\x81\x00", 9), 18},
	} {
		for n := range x.least {
			if f, e := ether.Parse(x.s[:n]); f != (api.Frame{}) || e != api.ErrEtherShort {
				t.Errorf("Parse(%x): %+v, %v, want ErrEtherShort", x.s[:n], f, e)
			}
		}
	}
	for _, s := range []string{head + "\x08\x00", head + "\x00\x00", head + "\x81\x00\x00\x05\x08\x00", head + "\x81\x00\x00\x05\x00\x00"} {
		if _, e := ether.Parse(s); e != api.OK {
			t.Errorf("Parse(%x): %v", s, e)
		}
	}
}

// P4.2: 1600 bytes are a frame, 1601 are none.
func TestParseLong(t *testing.T) {
	for _, start := range []string{head + "\x08\x00", head + "\x00\x05", head + "\x05\xdc", head + "\x81\x00\x00\x05\x08\x00", head + "\x81\x00\x00\x05\x05\xdc"} {
		for _, n := range []int{1598, 1599, 1600, 1601, 1602, 3200, 65536 + 14} {
			s := start + strings.Repeat("x", n-len(start))
			f, e := ether.Parse(s)
			if n > 1600 {
				if f != (api.Frame{}) || e != api.ErrEtherForm {
					t.Errorf("%d bytes: %.40v, %v, want ErrEtherForm", n, f, e)
				}
				continue
			}
			if e != api.OK || f.Dst != api.Broadcast || f.Type == 0x800 && f.Body != s[len(start):] {
				t.Errorf("%d bytes: %.40v, %v", n, f, e)
			}
		}
	}
}

// P4.2: each number where a type stands, without a tag and behind one, with many bytes left, with few, and with none.
func TestParseEachType(t *testing.T) {
	for _, x := range []struct {
		start string
		tag   api.Tag
	}{{head, api.Tag{}}, {head + "\x81\x00\xe0\x07", api.Tag{Has: true, Pri: 7, Vid: 7}}} {
		for n := range 1 << 16 {
			if n == 0x8100 && !x.tag.Has {
				continue // it begins a tag
			}
			for _, left := range []int{0, 3, 1500} {
				body := strings.Repeat("x", left)
				want, wantE := api.Frame{Dst: api.Broadcast, Src: 2, Tag: x.tag, Type: n, Body: body}, api.OK
				switch {
				case n <= 1500 && n <= left:
					want.Type, want.Body = 0, body[:n]
				case n <= 1500:
					want, wantE = api.Frame{}, api.ErrEtherShort
				case n < 0x600 || n == 0x8100:
					want, wantE = api.Frame{}, api.ErrEtherForm
				}
				if f, e := ether.Parse(x.start + word(n) + body); f != want || e != wantE {
					t.Errorf("type %#x, tag %v, %d left: %.60v, %v, want %v", n, x.tag, left, f, e, wantE)
				}
			}
		}
	}
}

// P4.2: a length of just as many bytes as are left, of one more, and of fewer.
func TestParseLengths(t *testing.T) {
	for _, start := range []string{head, head + "\x81\x00\x00\x05"} {
		for _, n := range []int{0, 1, 2, 46, 255, 256, 1499, 1500} {
			body := strings.Repeat("y", n)
			for _, behind := range []string{"", "z", strings.Repeat("\x00", 46)} {
				if f, e := ether.Parse(start + word(n) + body + behind); f.Body != body || f.Type != 0 || e != api.OK {
					t.Errorf("a length of %d, %d left: %.60v, %v", n, n+len(behind), f, e)
				}
			}
			if n == 0 {
				continue
			}
			for _, left := range []int{n - 1, n / 2, 0} {
				if f, e := ether.Parse(start + word(n) + body[:left]); f != (api.Frame{}) || e != api.ErrEtherShort {
					t.Errorf("a length of %d, %d left: %.60v, %v, want ErrEtherShort", n, left, f, e)
				}
			}
		}
	}
}

// P4.2: of two errors the first one is told: too long, too short for a head, a wrong form, too short for a body.
func TestParseFirstError(t *testing.T) {
	const tagged = head + "\x81\x00\x00\x05"
	more := strings.Repeat("x", 1601)
	for s, want := range map[string]api.Errno{
		(head + "\x05\xdd" + more)[:1601]:     api.ErrEtherForm,
		(head + "\x05\xdc" + more)[:1601]:     api.ErrEtherForm,
		(tagged + "\x81\x00" + more)[:1601]:   api.ErrEtherForm,
		tagged + "\x81":                       api.ErrEtherShort,
		tagged + "\x05":                       api.ErrEtherShort,
		tagged:                                api.ErrEtherShort,
		tagged + "\x81\x00":                   api.ErrEtherForm,
		tagged + "\x81\x00\x00":               api.ErrEtherForm,
		tagged + "\x81\x00\x00\x05\x08\x00ab": api.ErrEtherForm,
		tagged + "\x05\xdd":                   api.ErrEtherForm,
		tagged + "\x05\xdc":                   api.ErrEtherShort,
		head + "\x05\xdd":                     api.ErrEtherForm,
		head + "\x05\xff":                     api.ErrEtherForm,
		head + "\x05\xdc":                     api.ErrEtherShort,
		head + "\x05":                         api.ErrEtherShort,
	} {
		if f, e := ether.Parse(s); f != (api.Frame{}) || e != want {
			t.Errorf("Parse(%.40x), %d bytes: %.60v, %v, want %v", s, len(s), f, e, want)
		}
	}
}

// R4: what is parsed is new memory.
func TestParseIsNew(t *testing.T) {
	for _, kind := range []string{"\x08\x00", "\x00\x40"} {
		s := head + kind + strings.Repeat("x", 64)
		f, e := ether.Parse(s)
		if e != api.OK || f.Body != s[14:] {
			t.Fatalf("%+v, %v", f, e)
		}
		if unsafe.StringData(f.Body) == unsafe.StringData(s[14:]) {
			t.Error("a body shares its memory with the bytes that it was parsed from")
		}
	}
}

// P4.3: Tagged changes the tag and nothing else, Bare takes it away; also of frames and tags that may not be.
func TestTagged(t *testing.T) {
	tags := []api.Tag{
		{}, vid(0), vid(9), vid(4095), {Has: true, Pri: 7, Dei: true, Vid: 4094},
		{Vid: 3}, {Dei: true}, {Has: true, Pri: 8}, {Has: true, Pri: -1, Vid: 4096}, {Has: true, Pri: math.MinInt, Dei: true, Vid: math.MaxInt},
	}
	for _, f := range []api.Frame{
		{}, base(), sized(0, api.Tag{}, 10), sized(0x800, api.Tag{}, 1586),
		{Dst: math.MaxUint64, Src: 1 << 48, Type: -1, Body: "body"}, sized(0x8100, api.Tag{}, 5000),
	} {
		for _, was := range tags {
			for _, now := range tags {
				g := f
				g.Tag = was
				want := f
				want.Tag = now
				if r := ether.Tagged(g, now); r != want {
					t.Errorf("Tagged(%.60v, %v): %.60v", g, now, r)
				}
				if g.Tag != was {
					t.Errorf("Tagged changed its frame's tag %v to %v", was, g.Tag)
				}
				want.Tag = api.Tag{}
				if r := ether.Bare(ether.Tagged(g, now)); r != want {
					t.Errorf("Bare(Tagged(%.60v, %v)): %.60v", g, now, r)
				}
				if r := ether.Bare(g); r != want {
					t.Errorf("Bare(%.60v): %.60v", g, r)
				}
			}
		}
	}
}

// P4.4: what is built is parsed as it was.
func TestBuiltIsParsed(t *testing.T) {
	next := source()
	lengths, tagged := 0, 0
	for range 20000 {
		f := api.Frame{Dst: next() >> 16, Src: next() >> (16 + next()%48), Body: some(next, int(next()%80))}
		if next()%2 == 0 {
			f.Type = 0x600 + int(next()%(0x10000-0x600))
		}
		if next()%2 == 0 {
			f.Tag = api.Tag{Has: true, Pri: int(next() % 8), Dei: next()%2 == 0, Vid: int(next() % 4096)}
		}
		if f.Type == 0x8100 {
			continue
		}
		s, e := ether.Build(f)
		if e != api.OK {
			t.Fatalf("Build(%+v): %v", f, e)
		}
		if g, e := ether.Parse(s); g != f || e != api.OK {
			t.Fatalf("%+v: %x: %+v, %v", f, s, g, e)
		}
		if f.Type == 0 {
			lengths++
		}
		if f.Tag.Has {
			tagged++
		}
	}
	if lengths < 5000 || tagged < 5000 {
		t.Errorf("only %d with a length and %d with a tag were tried", lengths, tagged)
	}
	for _, f := range []api.Frame{sized(0, api.Tag{}, 1500), sized(0, vid(1), 1500), sized(0x600, api.Tag{}, 1586), sized(0xffff, vid(4095), 1582), {}} {
		s, _ := ether.Build(f)
		if g, e := ether.Parse(s); g != f || e != api.OK {
			t.Errorf("%.60v, a body of %d: %.60v, %v", f, len(f.Body), g, e)
		}
	}
}

// P4.4: each tag there is, is parsed and built as it was.
func TestEachTag(t *testing.T) {
	for n := range 1 << 16 {
		s := head + "\x81\x00" + word(n) + "\x08\x00body"
		f, e := ether.Parse(s)
		if want := (api.Tag{Has: true, Pri: n / 8192, Dei: n/4096%2 == 1, Vid: n % 4096}); f.Tag != want || e != api.OK {
			t.Errorf("%#x: %+v, %v, want %+v", n, f.Tag, e, want)
		}
		if b, e := ether.Build(f); b != s || e != api.OK {
			t.Errorf("%#x: %x, %v, want %x", n, b, e, s)
		}
	}
}

// P4.4: what is parsed, built, is the bytes, but for those that are lost: those behind a body whose length is told.
func TestParsedIsBuilt(t *testing.T) {
	next := source()
	kinds := []string{"\x08\x00", "\x06\x00", "\xff\xff", "\x00\x00", "\x00\x01", "\x00\x14", "\x00\x28", "\x05\xdc", "\x05\xdd", "\x05\xff", "\x81\x00"}
	fine, lost := 0, 0
	for range 20000 {
		s := some(next, 12)
		if next()%2 == 0 {
			s += "\x81\x00" + some(next, 2)
		}
		s += kinds[next()%uint64(len(kinds))] + some(next, int(next()%60))
		f, e := ether.Parse(s)
		if e != api.OK {
			continue
		}
		fine++
		if c := ether.Check(f); c != api.OK {
			t.Fatalf("Parse(%x): %+v, whose Check is %v", s, f, c)
		}
		b, e := ether.Build(f)
		if e != api.OK || !strings.HasPrefix(s, b) || f.Type != 0 && b != s {
			t.Fatalf("%x: %+v: %x, %v", s, f, b, e)
		}
		if len(b) < len(s) {
			lost++
		}
	}
	if fine < 5000 || lost < 1000 {
		t.Errorf("only %d were parsed, %d of them with bytes lost", fine, lost)
	}
}
