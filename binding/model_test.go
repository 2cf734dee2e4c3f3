package binding_test

import (
	"fmt"
	"slices"
	"strings"
	"testing"

	"gangway/api"
	"gangway/arp"
	"gangway/binding"
)

// model is a table as the chapter's words tell it, its entries in order.
type model struct {
	room, life int
	entries    []api.Entry
}

func isTime(n int) bool { return n >= 0 && n <= lastTime }

func isVlan(n int) bool { return n >= 1 && n <= 4094 }

func (m *model) old(e api.Entry, now int) bool { return now-e.At >= m.life }

// where is where in the list a key is, or -1.
func (m *model) where(key uint64) int {
	return slices.IndexFunc(m.entries, func(e api.Entry) bool { return e.Key == key })
}

func (m *model) expire(now int) int {
	before := len(m.entries)
	if isTime(now) {
		m.entries = slices.DeleteFunc(m.entries, func(e api.Entry) bool { return m.old(e, now) })
	}
	return before - len(m.entries)
}

func (m *model) note(vid int, a api.Arp, now int) bool {
	if !isVlan(vid) || arp.Check(a) != api.OK || a.SIp == 0 || !isTime(now) {
		return false
	}
	e := at(vid, a.SIp, a.SMac, now)
	if i := m.where(e.Key); i >= 0 {
		m.entries[i] = e
		return true
	}
	m.expire(now)
	if len(m.entries) == m.room {
		goes := 0
		for i, x := range m.entries {
			if x.At < m.entries[goes].At {
				goes = i
			}
		}
		m.entries = slices.Delete(m.entries, goes, goes+1)
	}
	m.entries = append(m.entries, e)
	slices.SortFunc(m.entries, func(a, b api.Entry) int { return int(a.Key) - int(b.Key) })
	return true
}

func (m *model) find(vid int, ip uint32, now int) (uint64, bool) {
	if !isVlan(vid) || !isTime(now) {
		return 0, false
	}
	i := m.where(at(vid, ip, 0, 0).Key)
	if i < 0 || m.old(m.entries[i], now) {
		return 0, false
	}
	return m.entries[i].Value, true
}

func (m *model) reply(vid int, a api.Arp, now int) (api.Frame, bool) {
	mac, is := m.find(vid, a.TIp, now)
	if a.Op != api.ArpAsks || arp.Check(a) != api.OK || a.SIp == 0 || a.SIp == a.TIp || !is {
		return api.Frame{}, false
	}
	body, _ := arp.Build(api.Arp{Op: api.ArpTells, SMac: mac, SIp: a.TIp, TMac: a.SMac, TIp: a.SIp})
	return api.Frame{Dst: a.SMac, Src: mac, Type: api.TypeArp, Body: body}, true
}

// message is one told by a number; some of them may not be.
func message(x uint64) api.Arp {
	a := api.Arp{Op: 1 + int(x%2), SMac: 2 + 2*(x>>4%3), SIp: 1 + uint32(x>>8%4), TMac: x >> 12 % 2, TIp: 1 + uint32(x>>16%4)}
	switch x >> 20 % 32 {
	case 0:
		a.Op = 3 * int(x%2)
	case 1:
		a.SMac = noHosts()[x>>28%9]
	case 2:
		a.TMac = 1 << 48
	case 3:
		a.SIp = 0
	case 4:
		a.TIp = 0
	}
	return a
}

// step does one thing to both, told by a number, and tells both answers as texts.
func step(k *binding.Table, m *model, x uint64, now int) (string, string) {
	vid, a := 1+int(x>>4%3), message(x>>8)
	if x>>48%32 == 0 {
		vid = noVids()[x>>40%14]
	}
	switch x % 16 {
	case 0:
		return fmt.Sprint("expire ", k.Expire(now)), fmt.Sprint("expire ", m.expire(now))
	case 1, 2, 3:
		mac, is := k.Find(vid, a.TIp, now)
		want, be := m.find(vid, a.TIp, now)
		return fmt.Sprint("find ", mac, is), fmt.Sprint("find ", want, be)
	case 4, 5, 6:
		f, is := k.Reply(vid, a, now)
		want, be := m.reply(vid, a, now)
		return fmt.Sprintf("reply %v %+v", is, f), fmt.Sprintf("reply %v %+v", be, want)
	}
	return fmt.Sprint("note ", k.Note(vid, a, now)), fmt.Sprint("note ", m.note(vid, a, now))
}

// P12.1, P12.2: whatever is done, at times in any order, the table is as the chapter says, and within its room.
func TestAny(t *testing.T) {
	next := source()
	said := map[string]int{}
	for range 400 {
		room, life := 1+int(next()>>20%8), 1+int(next()>>20%20)
		k, m := table(t, room, life), &model{room: room, life: life}
		base := []int{0, 1000, lastTime - 90}[next()>>20%3]
		for i := range 200 {
			now := base + i/2 + int(next()>>20%5) - 2
			got, want := step(k, m, next()>>4, now)
			kind, _, _ := strings.Cut(want, " {") // without the frame
			said[kind]++
			if got != want {
				t.Fatalf("at %d of room %d, life %d: %s, want %s", now, room, life, got, want)
			}
			if got := k.Entries(); !slices.Equal(got, m.entries) || len(got) > room {
				t.Fatalf("%s at %d of room %d, life %d: it has %+v, want %+v", want, now, room, life, got, m.entries)
			}
			if next()>>20%16 == 0 { // a copy goes on where its original was
				k = k.Copy()
			}
		}
	}
	for _, s := range []string{"note true", "note false", "find 0 false", "find 2 true", "find 6 true", "reply true", "reply false", "expire 0", "expire 3"} {
		if said[s] == 0 {
			t.Errorf("never tried: %s", s)
		}
	}
}

// P12.3: what is answered is what the last message said, not longer ago than the table's life; with room for all it is always answered as time passes.
func TestLastMessage(t *testing.T) {
	const life = 30
	next := source()
	for _, room := range []int{3, 16} {
		k := table(t, room, life)
		last := map[uint64]api.Entry{} // what each address' last message said
		answers := 0
		for now := range 4000 {
			vid, a := 1+int(next()>>20%4), message(next()>>4)
			if k.Note(vid, a, now) {
				e := at(vid, a.SIp, a.SMac, now)
				last[e.Key] = e
			}
			for vid := 1; vid <= 4; vid++ {
				for ip := uint32(1); ip <= 4; ip++ {
					e, is := last[at(vid, ip, 0, 0).Key]
					is = is && now-e.At < life
					mac, got := k.Find(vid, ip, now)
					if got && (!is || mac != e.Value) || is && !got && room == 16 {
						t.Fatalf("room %d: Find(%d, %d, %d): %d, %v, the last message said %+v", room, vid, ip, now, mac, got, e)
					}
					f, told := k.Reply(vid, asks(14, 99, ip), now)
					if told != got || f.Src != mac {
						t.Fatalf("room %d: at %d it finds %d, %v, and tells %+v, %v", room, now, mac, got, f, told)
					}
					if got {
						answers++
					}
				}
			}
		}
		if answers < 4000 {
			t.Errorf("room %d: %d answers alone", room, answers)
		}
	}
}
