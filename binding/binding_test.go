package binding_test

import (
	"math"
	"reflect"
	"slices"
	"testing"

	"gangway/api"
	"gangway/arp"
	"gangway/binding"
)

const (
	lastTime = 1 << 40
	lastIp   = math.MaxUint32
	lastMac  = 1<<48 - 1
	lastOwn  = 0xfeffffffffff // the greatest address that is a host's
	firstBit = 1 << 40        // the least address that is a group's
)

// noTimes are numbers that are no time.
func noTimes() []int { return []int{-1, lastTime + 1, math.MinInt, math.MaxInt} }

// noVids are numbers that are no VLAN's; some of them are 1 modulo a power of 2.
func noVids() []int {
	return []int{0, 4095, 4096, 4097, -1, 1 + 1<<12, 1 + 1<<16, 1 + 1<<31, 1 + 1<<32, 1 - 1<<32, 1 + 1<<62, math.MinInt, math.MinInt + 1, math.MaxInt}
}

// noHosts are MAC addresses that are no host's, and greater numbers; some of them have a host's in their lowest 48 bits.
func noHosts() []uint64 {
	return []uint64{0, firstBit, firstBit | 2, api.SpanGroup, api.Broadcast, 1 << 48, 1<<48 | 2, 1<<49 | 2, math.MaxUint64}
}

// noOps are none of a message; some of them are 1 or 2 modulo a power of 2.
func noOps() []int {
	return []int{0, 3, -1, -2, 1 + 1<<8, 1 + 1<<16, 2 + 1<<16, 1 + 1<<32, 2 + 1<<32, math.MinInt, math.MinInt + 1, math.MaxInt}
}

// asks is a message in which mac at ip asks who has want.
func asks(mac uint64, ip, want uint32) api.Arp {
	return api.Arp{Op: api.ArpAsks, SMac: mac, SIp: ip, TIp: want}
}

// tells is one in which mac tells all that it is at ip.
func tells(mac uint64, ip uint32) api.Arp {
	return api.Arp{Op: api.ArpTells, SMac: mac, SIp: ip, TMac: api.Broadcast, TIp: 1}
}

// at is an entry of an address in a VLAN.
func at(vid int, ip uint32, mac uint64, now int) api.Entry {
	return api.Entry{Key: uint64(vid)*(1<<32) + uint64(ip), Value: mac, At: now}
}

// table is an empty one.
func table(t *testing.T, room, life int) *binding.Table {
	t.Helper()
	k, e := binding.New(room, life)
	if k == nil || e != api.OK {
		t.Fatalf("New(%d, %d): %v, %v", room, life, k, e)
	}
	return k
}

// note notes, where nothing is wrong, that mac is at ip.
func note(t *testing.T, k *binding.Table, vid int, ip uint32, mac uint64, now int) {
	t.Helper()
	if !k.Note(vid, tells(mac, ip), now) {
		t.Fatalf("Note(%d, %d is at %#x, %d): no", vid, ip, mac, now)
	}
}

// has holds a table's entries against those that it should have.
func has(t *testing.T, k *binding.Table, want ...api.Entry) {
	t.Helper()
	if got := k.Entries(); !slices.Equal(got, want) {
		t.Errorf("it has %+v, want %+v", got, want)
	}
}

// finds holds what Find answers against a MAC address, or 0 where there is to be none.
func finds(t *testing.T, k *binding.Table, vid int, ip uint32, now int, want uint64) {
	t.Helper()
	if got, is := k.Find(vid, ip, now); got != want || is != (want != 0) {
		t.Errorf("Find(%d, %d, %d): %#x, %v, want %#x", vid, ip, now, got, is, want)
	}
}

// replies holds what Reply answers against the MAC address that is to be told, or 0 where there is to be no answer.
func replies(t *testing.T, k *binding.Table, vid int, a api.Arp, now int, want uint64) {
	t.Helper()
	f, is := k.Reply(vid, a, now)
	if is != (want != 0) {
		t.Errorf("Reply(%d, %+v, %d): %+v, %v, want %#x", vid, a, now, f, is, want)
		return
	}
	if !is {
		if f != (api.Frame{}) {
			t.Errorf("Reply(%d, %+v, %d): %+v beside a no", vid, a, now, f)
		}
		return
	}
	body, e := arp.Build(api.Arp{Op: api.ArpTells, SMac: want, SIp: a.TIp, TMac: a.SMac, TIp: a.SIp})
	if e != api.OK || f != (api.Frame{Dst: a.SMac, Src: want, Type: api.TypeArp, Body: body}) {
		t.Errorf("Reply(%d, %+v, %d): %+v, want that %#x has it", vid, a, now, f, want)
	}
}

// stays tells whether a table has the same entries when something was done.
func stays(t *testing.T, k *binding.Table, name string, do func()) {
	t.Helper()
	before := k.Entries()
	do()
	if got := k.Entries(); !slices.Equal(got, before) {
		t.Errorf("%s: it has %+v, had %+v", name, got, before)
	}
}

// source answers numbers, the same ones in each run.
func source() func() uint64 {
	x := uint64(88172645463325252)
	return func() uint64 {
		x ^= x << 13
		x ^= x >> 7
		x ^= x << 17
		return x
	}
}

// P12.1: room is 1 to 4096, life 1 to 2^40.
func TestNew(t *testing.T) {
	for _, x := range []struct {
		room, life int
		want       api.Errno
	}{
		{1, 1, api.OK}, {2, 10, api.OK}, {4096, 1, api.OK}, {1, lastTime, api.OK}, {4096, lastTime, api.OK},
		{0, 1, api.ErrArg}, {-1, 1, api.ErrArg}, {4097, 1, api.ErrArg}, {math.MinInt, 1, api.ErrArg}, {math.MaxInt, 1, api.ErrArg},
		{1, 0, api.ErrArg}, {1, -1, api.ErrArg}, {1, lastTime + 1, api.ErrArg}, {1, math.MinInt, api.ErrArg}, {1, math.MaxInt, api.ErrArg},
		{0, 0, api.ErrArg}, {4097, lastTime + 1, api.ErrArg},
	} {
		k, e := binding.New(x.room, x.life)
		if e != x.want || (k == nil) != (e != api.OK) {
			t.Errorf("New(%d, %d): %v, %v, want %v", x.room, x.life, k, e, x.want)
		}
		if k != nil {
			has(t, k)
		}
	}
}

// P12.1: two tables have nothing in common.
func TestNewAgain(t *testing.T) {
	a, b := table(t, 2, 10), table(t, 2, 10)
	note(t, a, 1, 7, 2, 0)
	has(t, a, at(1, 7, 2, 0))
	has(t, b)
}

// P12.1: there is room for just as many as was said.
func TestRoom(t *testing.T) {
	for _, room := range []int{1, 2, 4096} {
		k := table(t, room, lastTime)
		for i := range room {
			note(t, k, 1+i%3, uint32(i+1), 2, i)
		}
		if n := len(k.Entries()); n != room {
			t.Errorf("%d entries, room is %d", n, room)
		}
		note(t, k, 4, lastIp, 6, room)
		if n := len(k.Entries()); n != room {
			t.Errorf("%d entries, room is %d", n, room)
		}
		finds(t, k, 1, 1, room, 0)
		finds(t, k, 4, lastIp, room, 6)
		if room > 1 {
			finds(t, k, 2, 2, room, 2)
		}
	}
}

// P12.1, P12.2: the chapter's example.
func TestExample(t *testing.T) {
	k := table(t, 2, 10)
	if !k.Note(1, api.Arp{Op: api.ArpTells, SMac: 6, SIp: 0x0a000002, TMac: 2, TIp: 0x0a000001}, 0) {
		t.Error("not noted")
	}
	f, is := k.Reply(1, asks(2, 0x0a000001, 0x0a000002), 3)
	if !is || f.Dst != 2 || f.Src != 6 {
		t.Errorf("%+v, %v", f, is)
	}
}

// P12.1: a message that asks and one that tells are noted alike, whatever they say of another one.
func TestNote(t *testing.T) {
	for _, op := range []int{api.ArpAsks, api.ArpTells} {
		for _, tMac := range []uint64{0, 2, 6, firstBit, api.SpanGroup, lastMac} {
			for _, tIp := range []uint32{0, 7, 9, lastIp} {
				k := table(t, 2, 10)
				a := api.Arp{Op: op, SMac: 6, SIp: 7, TMac: tMac, TIp: tIp}
				if !k.Note(5, a, 3) {
					t.Errorf("Note(5, %+v, 3): no", a)
				}
				has(t, k, at(5, 7, 6, 3))
				finds(t, k, 5, 7, 3, 6)
			}
		}
	}
}

// P12.1: each address but 0, and each MAC address that is a host's, is noted as it is.
func TestNoteAddresses(t *testing.T) {
	for _, ip := range []uint32{1, 2, 0x0a000002, 0x7fffffff, 0x80000000, 0xe0000001, lastIp - 1, lastIp} {
		for _, mac := range []uint64{1, 2, firstBit - 1, 2 * firstBit, lastOwn} {
			k := table(t, 2, 10)
			note(t, k, 1, ip, mac, 3)
			has(t, k, at(1, ip, mac, 3))
			finds(t, k, 1, ip, 3, mac)
			replies(t, k, 1, asks(4, 9, ip), 3, mac)
		}
	}
}

// P12.1, P12.2: VLANs are 1 to 4094.
func TestVids(t *testing.T) {
	for _, vid := range []int{1, 2, 255, 256, 4093, 4094} {
		k := table(t, 2, 10)
		note(t, k, vid, 7, 6, 3)
		has(t, k, at(vid, 7, 6, 3))
		finds(t, k, vid, 7, 3, 6)
		replies(t, k, vid, asks(2, 9, 7), 3, 6)
	}
}

// P12.1, P12.2: in no other one anything is noted, found, or answered, and none is taken for one that is.
func TestNoVids(t *testing.T) {
	k := table(t, 9, 10)
	for _, vid := range []int{1, 2, 4094} {
		for _, ip := range []uint32{7, lastIp} {
			note(t, k, vid, ip, 6, 3)
		}
	}
	for _, vid := range noVids() {
		stays(t, k, "no VLAN", func() {
			for _, ip := range []uint32{0, 7, lastIp} {
				for _, a := range []api.Arp{asks(4, ip, 9), tells(4, ip)} {
					if k.Note(vid, a, 3) {
						t.Errorf("Note(%d, %+v, 3): yes", vid, a)
					}
				}
				finds(t, k, vid, ip, 3, 0)
				replies(t, k, vid, asks(2, 9, ip), 3, 0)
			}
		})
	}
}

// wrong are messages that may not be, or come from no address, each wrong in one way; those that ask for a right address ask for want.
func wrong(want uint32) []api.Arp {
	var out []api.Arp
	with := func(change func(a *api.Arp)) {
		for _, op := range []int{api.ArpAsks, api.ArpTells} {
			a := api.Arp{Op: op, SMac: 2, SIp: 9, TIp: want}
			change(&a)
			out = append(out, a)
		}
	}
	for _, op := range noOps() {
		with(func(a *api.Arp) { a.Op = op })
	}
	for _, mac := range noHosts() {
		with(func(a *api.Arp) { a.SMac = mac })
	}
	for _, mac := range []uint64{1 << 48, 1<<48 | 2, 1 << 63, math.MaxUint64} {
		with(func(a *api.Arp) { a.TMac = mac })
	}
	with(func(a *api.Arp) { a.SIp = 0 })
	return out
}

// P12.1, P12.2: what may not be, and what comes from the address 0, is neither noted nor answered; nothing changes.
func TestWrongMessages(t *testing.T) {
	k := table(t, 9, 10)
	note(t, k, 1, 7, 6, 3)
	note(t, k, 1, 9, 4, 3)
	for _, a := range wrong(7) {
		stays(t, k, "a wrong message", func() {
			if k.Note(1, a, 4) {
				t.Errorf("Note(1, %+v, 4): yes", a)
			}
			replies(t, k, 1, a, 4, 0)
		})
	}
}

// P12.1: what is refused in a full table, or beside old entries, lets none of them go.
func TestRefusedBesideOld(t *testing.T) {
	k := table(t, 2, 10)
	note(t, k, 1, 7, 6, 0)
	note(t, k, 1, 8, 6, 1)
	refused := func(vid int, a api.Arp, now int) {
		t.Helper()
		stays(t, k, "what is refused", func() {
			if k.Note(vid, a, now) {
				t.Errorf("Note(%d, %+v, %d): yes", vid, a, now)
			}
		})
	}
	for _, now := range []int{2, 10, 50, lastTime} {
		for _, a := range wrong(7) {
			refused(1, a, now)
		}
		for _, vid := range noVids() {
			refused(vid, tells(4, 9), now)
		}
	}
	for _, now := range noTimes() {
		refused(1, tells(4, 9), now)
		refused(1, tells(4, 7), now)
	}
	for _, a := range wrong(7) { // all is wrong at once
		refused(0, a, -1)
	}
}

// P12.1, P12.2: the first time and the last one are times.
func TestTimes(t *testing.T) {
	for _, now := range []int{0, 1, lastTime - 1, lastTime} {
		k := table(t, 2, 10)
		note(t, k, 1, 7, 6, now)
		has(t, k, at(1, 7, 6, now))
		finds(t, k, 1, 7, now, 6)
		replies(t, k, 1, asks(2, 9, 7), now, 6)
		if n := k.Expire(now); n != 0 {
			t.Errorf("Expire(%d): %d", now, n)
		}
	}
}

// P12.1, P12.2: at what is no time nothing is noted, found, answered, or taken out.
func TestNoTimes(t *testing.T) {
	k := table(t, 3, 1)
	note(t, k, 1, 7, 6, lastTime)
	note(t, k, 1, 8, 6, 0)
	for _, now := range noTimes() {
		stays(t, k, "no time", func() {
			for ip := uint32(7); ip <= 9; ip++ {
				if k.Note(1, tells(4, ip), now) {
					t.Errorf("Note at %d: yes", now)
				}
				finds(t, k, 1, ip, now, 0)
				replies(t, k, 1, asks(2, 3, ip), now, 0)
			}
			if n := k.Expire(now); n != 0 {
				t.Errorf("Expire(%d): %d", now, n)
			}
		})
	}
}

// P12.1, P12.3: an address that is heard of again has the MAC address and the time of the last message, be it the same one or another one, later or earlier, and old or not; no other one changes, old or not.
func TestNoteAgain(t *testing.T) {
	k := table(t, 3, 10)
	note(t, k, 1, 7, 6, 20)
	note(t, k, 2, 7, 6, 20)
	note(t, k, 1, 8, 6, 20)
	for _, x := range []struct {
		mac uint64
		now int
	}{{6, 21}, {6, 21}, {4, 22}, {4, 29}, {2, 29}, {6, 30}, {6, 39}, {4, 49}, {4, 59}, {2, 1000}, {6, lastTime}, {4, 15}, {4, 0}} {
		note(t, k, 1, 7, x.mac, x.now)
		has(t, k, at(1, 7, x.mac, x.now), at(1, 8, 6, 20), at(2, 7, 6, 20))
		finds(t, k, 1, 7, x.now, x.mac)
		replies(t, k, 1, asks(14, 9, 7), x.now, x.mac)
	}
}

// P12.1, P12.3: what asks counts as what tells does: the last one of both.
func TestNoteAsksAndTells(t *testing.T) {
	k := table(t, 2, 10)
	for i, x := range []struct {
		a   api.Arp
		mac uint64
	}{{asks(2, 7, 9), 2}, {tells(4, 7), 4}, {asks(6, 7, 9), 6}, {asks(2, 7, 7), 2}, {tells(2, 7), 2}} {
		if !k.Note(1, x.a, i) {
			t.Errorf("Note(1, %+v, %d): no", x.a, i)
		}
		has(t, k, at(1, 7, x.mac, i))
	}
}

// P12.1: one MAC address has several addresses.
func TestOneHost(t *testing.T) {
	k := table(t, 4, 10)
	note(t, k, 1, 7, 6, 0)
	note(t, k, 1, 8, 6, 1)
	note(t, k, 2, 7, 6, 2)
	note(t, k, 1, 8, 4, 3)
	has(t, k, at(1, 7, 6, 0), at(1, 8, 4, 3), at(2, 7, 6, 2))
}

// P12.1: ahead of a further one all go that are old at now, be there room or not.
func TestNoteBesideOld(t *testing.T) {
	for _, room := range []int{3, 4, 4096} {
		for _, x := range []struct {
			now  int
			want []api.Entry
		}{
			{11, []api.Entry{at(1, 7, 2, 3), at(1, 9, 4, 2), at(2, 7, 6, 4)}},
			{12, []api.Entry{at(1, 7, 2, 3), at(2, 7, 6, 4)}},
			{13, []api.Entry{at(2, 7, 6, 4)}},
			{14, nil},
			{lastTime, nil},
		} {
			k := table(t, room, 10)
			note(t, k, 2, 7, 6, 4)
			note(t, k, 1, 9, 4, 2)
			note(t, k, 1, 7, 2, 3)
			want := append(slices.Clone(x.want), at(3, 1, 14, x.now))
			if room == 3 && x.now == 11 { // none is old: the one that was noted first goes
				want = slices.DeleteFunc(want, func(e api.Entry) bool { return e.Value == 4 })
			}
			note(t, k, 3, 1, 14, x.now)
			has(t, k, want...)
		}
	}
}

// P12.1: in a full table the one goes of which it was heard longest ago; of several the one with the least VLAN, of these with the least address.
func TestNoteFull(t *testing.T) {
	places := []api.Entry{at(1, 8, 2, 0), at(1, lastIp, 4, 0), at(2, 7, 6, 0), at(4094, 1, 8, 0)}
	for _, x := range []struct {
		ats  [4]int
		now  int
		goes int
	}{
		{[4]int{4, 3, 2, 3}, 5, 2}, {[4]int{1, 3, 2, 3}, 5, 0}, {[4]int{4, 3, 2, 1}, 5, 3},
		{[4]int{2, 2, 2, 2}, 5, 0}, {[4]int{3, 2, 2, 2}, 5, 1}, {[4]int{3, 3, 2, 2}, 5, 2},
		{[4]int{9, 8, 9, 8}, 5, 1}, // later than now
	} {
		k := table(t, 4, 10)
		var want []api.Entry
		for _, i := range []int{2, 0, 3, 1} {
			p := places[i]
			note(t, k, int(p.Key>>32), uint32(p.Key), p.Value, x.ats[i])
		}
		for i, p := range places {
			if p.At = x.ats[i]; i != x.goes {
				want = append(want, p)
			}
		}
		note(t, k, 3, 5, 14, x.now)
		want = append(want, at(3, 5, 14, x.now))
		slices.SortFunc(want, func(a, b api.Entry) int { return int(a.Key) - int(b.Key) })
		has(t, k, want...)
	}
}

// P12.1: one that is heard of again is not the one that goes.
func TestNoteFullAgain(t *testing.T) {
	k := table(t, 2, 10)
	note(t, k, 1, 7, 2, 0)
	note(t, k, 1, 8, 4, 1)
	note(t, k, 1, 7, 2, 2)
	note(t, k, 1, 9, 6, 3)
	has(t, k, at(1, 7, 2, 2), at(1, 9, 6, 3))
}

// P12.2, P12.3: an address is found, and told, till a tick ahead of its life's end, not at it; it is not taken out by that.
func TestLife(t *testing.T) {
	for _, life := range []int{1, 2, 10, lastTime - 5} {
		k := table(t, 2, life)
		note(t, k, 1, 7, 6, 5)
		for _, x := range []struct {
			now  int
			want uint64
		}{{0, 6}, {4, 6}, {5, 6}, {5 + life - 1, 6}, {5 + life, 0}, {min(5+life+1, lastTime), 0}, {lastTime, 0}, {5 + life - 1, 6}} {
			finds(t, k, 1, 7, x.now, x.want)
			replies(t, k, 1, asks(2, 9, 7), x.now, x.want)
			has(t, k, at(1, 7, 6, 5))
		}
	}
}

// P12.2, P12.3: with the longest life what was noted at 0 is old at the last time alone, what was noted later never.
func TestLongestLife(t *testing.T) {
	k := table(t, 2, lastTime)
	note(t, k, 1, 7, 6, 0)
	note(t, k, 1, 8, 4, 1)
	finds(t, k, 1, 7, lastTime-1, 6)
	finds(t, k, 1, 7, lastTime, 0)
	finds(t, k, 1, 8, lastTime, 4)
	if k.Expire(lastTime-1) != 0 || k.Expire(lastTime) != 1 {
		t.Error("taken out at another time")
	}
	has(t, k, at(1, 8, 4, 1))
}

// P12.3: life begins anew with each message.
func TestLifeAgain(t *testing.T) {
	k := table(t, 2, 10)
	note(t, k, 1, 7, 6, 0)
	note(t, k, 1, 7, 6, 9)
	finds(t, k, 1, 7, 18, 6)
	finds(t, k, 1, 7, 19, 0)
	note(t, k, 1, 7, 4, 19)
	finds(t, k, 1, 7, 28, 4)
	note(t, k, 1, 7, 4, 12) // as the last one said
	finds(t, k, 1, 7, 21, 4)
	finds(t, k, 1, 7, 22, 0)
}

// P12.2: of what was never heard of nothing is found or told, also of the address 0, and in an empty table.
func TestNone(t *testing.T) {
	k := table(t, 9, 10)
	for range 2 {
		for _, x := range []struct {
			vid int
			ip  uint32
		}{{1, 0}, {1, 1}, {1, 6}, {1, 8}, {1, lastIp}, {2, 7}, {3, 0}, {4094, 7}} {
			finds(t, k, x.vid, x.ip, 3, 0)
			replies(t, k, x.vid, asks(2, 9, x.ip), 3, 0)
		}
		note(t, k, 1, 7, 6, 3)
		note(t, k, 2, 8, 6, 3)
		note(t, k, 2, lastIp, 6, 3)
	}
}

// P12.2, P12.3: one address in several VLANs has a MAC address in each; what is told is of the VLAN in which is asked.
func TestVlansApart(t *testing.T) {
	k := table(t, 9, 10)
	note(t, k, 1, 7, 2, 0)
	note(t, k, 2, 7, 4, 1)
	note(t, k, 4094, 7, 6, 2)
	note(t, k, 3, 8, 8, 2)
	for vid, mac := range map[int]uint64{1: 2, 2: 4, 3: 0, 4: 0, 4093: 0, 4094: 6} {
		finds(t, k, vid, 7, 5, mac)
		replies(t, k, vid, asks(14, 9, 7), 5, mac)
	}
	for vid, mac := range map[int]uint64{1: 0, 2: 4, 4094: 6} { // old in one alone
		finds(t, k, vid, 7, 10, mac)
		replies(t, k, vid, asks(14, 9, 7), 10, mac)
	}
	note(t, k, 2, 7, 10, 6)
	has(t, k, at(1, 7, 2, 0), at(2, 7, 10, 6), at(3, 8, 8, 2), at(4094, 7, 6, 2))
}

// P12.2: the answer's bytes: to who asked, from whom it tells of, and what its message says.
func TestReplyBytes(t *testing.T) {
	k := table(t, 2, 10)
	note(t, k, 5, 0xc0a80102, 0x0a0b0c0d0e0f, 0)
	f, is := k.Reply(5, api.Arp{Op: api.ArpAsks, SMac: 0x223344556677, SIp: 0xac10fefd, TMac: 0x112233445566, TIp: 0xc0a80102}, 9)
	want := api.Frame{
		Dst: 0x223344556677, Src: 0x0a0b0c0d0e0f, Type: api.TypeArp,
		Body: "\x00\x01\x08\x00\x06\x04\x00\x02\x0a\x0b\x0c\x0d\x0e\x0f\xc0\xa8\x01\x02\x22\x33\x44\x55\x66\x77\xac\x10\xfe\xfd",
	}
	if !is || f != want {
		t.Errorf("%+v, %v, want %+v", f, is, want)
	}
}

// P12.2: who asks may be anybody, heard of or not, at any address but 0 and the one that is asked for; what its TMac is does not matter.
func TestReply(t *testing.T) {
	k := table(t, 2, 10)
	note(t, k, 1, 7, 6, 0)
	for _, mac := range []uint64{1, 2, 6, lastOwn} {
		for _, ip := range []uint32{1, 6, 8, lastIp} {
			for _, tMac := range []uint64{0, 6, 8, lastMac} {
				stays(t, k, "who asks", func() {
					replies(t, k, 1, api.Arp{Op: api.ArpAsks, SMac: mac, SIp: ip, TMac: tMac, TIp: 7}, 3, 6)
				})
			}
		}
	}
	has(t, k, at(1, 7, 6, 0))
}

// P12.2: what tells is not answered, nor who asks from the address 0, or for its own.
func TestNoReply(t *testing.T) {
	k := table(t, 2, 10)
	note(t, k, 1, 7, 6, 0)
	for _, a := range []api.Arp{
		{Op: api.ArpTells, SMac: 2, SIp: 9, TIp: 7}, asks(2, 0, 7), asks(2, 7, 7), asks(6, 7, 7), asks(2, 0, 0), asks(2, 9, 0), asks(2, 9, 9), asks(2, 9, lastIp),
	} {
		stays(t, k, "no answer", func() { replies(t, k, 1, a, 3, 0) })
	}
	replies(t, k, 1, asks(2, 9, 7), 3, 6)
}

// P12.2: addresses at both ends are asked for: 0 is never known, all ones may be.
func TestReplyEnds(t *testing.T) {
	k := table(t, 3, 10)
	note(t, k, 1, lastIp, 6, 0)
	note(t, k, 2, 1, 4, 0)
	replies(t, k, 1, asks(2, 9, lastIp), 3, 6)
	replies(t, k, 1, asks(2, lastIp, lastIp), 3, 0)
	replies(t, k, 2, asks(2, lastIp, 1), 3, 4)
	replies(t, k, 2, asks(2, 9, 0), 3, 0)
	replies(t, k, 2, asks(2, 9, lastIp), 3, 0)
}

// P12.2: Expire takes out what is old, and tells how many.
func TestExpire(t *testing.T) {
	k := table(t, 9, 10)
	note(t, k, 2, 7, 6, 2)
	note(t, k, 1, 7, 6, 1)
	note(t, k, 1, 8, 4, 4)
	for _, x := range []struct {
		now, n int
		want   []api.Entry
	}{
		{0, 0, []api.Entry{at(1, 7, 6, 1), at(1, 8, 4, 4), at(2, 7, 6, 2)}},
		{10, 0, []api.Entry{at(1, 7, 6, 1), at(1, 8, 4, 4), at(2, 7, 6, 2)}},
		{11, 1, []api.Entry{at(1, 8, 4, 4), at(2, 7, 6, 2)}},
		{11, 0, []api.Entry{at(1, 8, 4, 4), at(2, 7, 6, 2)}},
		{lastTime, 2, nil},
		{lastTime, 0, nil},
	} {
		if n := k.Expire(x.now); n != x.n {
			t.Errorf("Expire(%d): %d, want %d", x.now, n, x.n)
		}
		has(t, k, x.want...)
	}
}

// P12.2: Expire of an empty table is none.
func TestExpireNone(t *testing.T) {
	k := table(t, 1, 1)
	for _, now := range append(noTimes(), 0, lastTime) {
		if n := k.Expire(now); n != 0 {
			t.Errorf("Expire(%d): %d", now, n)
		}
	}
}

// P12.2: what was taken out is not found at an earlier time either.
func TestExpired(t *testing.T) {
	k := table(t, 2, 10)
	note(t, k, 1, 7, 6, 0)
	k.Expire(10)
	finds(t, k, 1, 7, 0, 0)
	replies(t, k, 1, asks(2, 9, 7), 0, 0)
}

// P12.2: Entries go by rising VLANs, of these by rising addresses, in whatever order they were noted; what is old is told, too.
func TestEntries(t *testing.T) {
	want := []api.Entry{
		at(1, 1, lastOwn, 0), at(1, 0x7fffffff, 2, 3), at(1, 0x80000000, 4, 2), at(1, lastIp, 6, 1),
		at(2, 1, 2, lastTime-1), at(256, 3, 2, 5), at(4094, 1, 2, 4), at(4094, lastIp, 2, 4),
	}
	for turn := range want {
		k := table(t, len(want), lastTime)
		for i := range want {
			e := want[(3*i+turn)%len(want)]
			note(t, k, int(e.Key>>32), uint32(e.Key), e.Value, e.At)
		}
		has(t, k, want...)
		finds(t, k, 1, 1, lastTime, 0) // it is old, and told
		has(t, k, want...)
	}
}

// P12.2: what Entries answers is its asker's, spare room too.
func TestEntriesNew(t *testing.T) {
	k := table(t, 4, 10)
	note(t, k, 1, 7, 2, 1)
	note(t, k, 1, 8, 4, 2)
	a, b := k.Entries(), k.Entries()
	for i := range a {
		a[i] = at(9, 9, 9, 9)
	}
	for range 5 {
		a = append(a, at(9, 9, 9, 9))
	}
	note(t, k, 1, 9, 6, 3)
	has(t, k, at(1, 7, 2, 1), at(1, 8, 4, 2), at(1, 9, 6, 3))
	if !slices.Equal(b, []api.Entry{at(1, 7, 2, 1), at(1, 8, 4, 2)}) {
		t.Errorf("%+v", b)
	}
	finds(t, k, 1, 7, 3, 2)
}

// P12.2: a copy has the same entries, and goes its own way; so does its original.
func TestCopy(t *testing.T) {
	changes := []func(k *binding.Table){
		func(k *binding.Table) { k.Note(1, tells(2, 7), 5) },
		func(k *binding.Table) { k.Note(1, tells(14, 7), 1) },
		func(k *binding.Table) { k.Note(1, tells(14, 6), 5) },
		func(k *binding.Table) { k.Note(3, asks(14, 7, 8), 5) },
		func(k *binding.Table) { k.Note(3, tells(2, 1), lastTime) },
		func(k *binding.Table) { k.Expire(11) },
		func(k *binding.Table) { k.Expire(lastTime) },
	}
	state := []api.Entry{at(1, 7, 2, 1), at(1, 8, 4, 2), at(2, 7, 6, 3)}
	for i, change := range changes {
		for _, own := range []bool{false, true} {
			k := table(t, 4, 10)
			for _, e := range state {
				note(t, k, int(e.Key>>32), uint32(e.Key), e.Value, e.At)
			}
			a, b := k, k.Copy()
			if own {
				a, b = b, a
			}
			change(a)
			has(t, b, state...)
			finds(t, b, 1, 7, 10, 2)
			finds(t, b, 1, 6, 10, 0)
			replies(t, b, 2, asks(2, 9, 7), 10, 6)
			if slices.Equal(a.Entries(), state) {
				t.Errorf("change %d made none", i)
			}
			change(b)
			has(t, b, a.Entries()...)
		}
	}
}

// P12.2: a copy has its original's room and life; one of an empty table is empty.
func TestCopyBounds(t *testing.T) {
	c := table(t, 2, 10).Copy()
	has(t, c)
	note(t, c, 1, 7, 2, 0)
	note(t, c, 1, 8, 4, 1)
	note(t, c, 1, 9, 6, 1)
	has(t, c, at(1, 8, 4, 1), at(1, 9, 6, 1))
	finds(t, c, 1, 8, 10, 4)
	finds(t, c, 1, 8, 11, 0)
	if c.Expire(10) != 0 || c.Expire(11) != 2 {
		t.Errorf("it has %+v", c.Entries())
	}
}

// P12.3: a table has the chapter's calls alone: none by which it would tell what no message said.
func TestFace(t *testing.T) {
	var names []string
	of := reflect.TypeFor[*binding.Table]()
	for i := range of.NumMethod() {
		names = append(names, of.Method(i).Name)
	}
	if want := []string{"Copy", "Entries", "Expire", "Find", "Note", "Reply"}; !slices.Equal(names, want) {
		t.Errorf("%v, want %v", names, want)
	}
	for _, f := range reflect.VisibleFields(of.Elem()) {
		if f.IsExported() {
			t.Errorf("%s is everybody's", f.Name)
		}
	}
}
