package disk_test

import (
	"math/rand"
	"strings"
	"sync"
	"testing"

	"capstan/api"
	"capstan/disk"
)

// model is a disk as the chapter tells it, in texts. Where a Stop is set, ahead operations are done ahead of the one that the power goes at.
type model struct {
	room            int
	synced, loose   string
	snap            string
	dead, even, set bool
	ahead           int
}

// power tells whether an operation is done, which is done anyway, or not, where the power goes at it.
func (m *model) power(anyway bool) (bool, api.Errno) {
	if m.set && m.ahead == 0 {
		m.dead, m.set = true, false
		return anyway, api.ErrDead
	}
	m.ahead--
	return true, api.OK
}

func (m *model) add(s string) api.Errno {
	if m.dead {
		return api.ErrDead
	}
	if len(m.synced)+len(m.loose)+len(m.snap)+len(s) > m.room {
		return api.ErrFull
	}
	_, e := m.power(true)
	m.loose += s
	return e
}

func (m *model) sync() api.Errno {
	if m.dead {
		return api.ErrDead
	}
	done, e := m.power(false)
	if done {
		m.synced, m.loose = m.synced+m.loose, ""
	}
	return e
}

func (m *model) cut(n int) api.Errno {
	all := m.synced + m.loose
	if m.dead {
		return api.ErrDead
	}
	if n < 0 || n > len(all) {
		return api.ErrArg
	}
	done, e := m.power(m.even)
	if done {
		m.synced, m.loose = all[:n], ""
	}
	return e
}

func (m *model) swap(s string) api.Errno {
	if m.dead {
		return api.ErrDead
	}
	if len(s) > m.room {
		return api.ErrFull
	}
	done, e := m.power(m.even)
	if done {
		m.synced, m.loose, m.snap = "", "", s
	}
	return e
}

func (m *model) crash(pick int) int {
	for pick < 0 {
		pick += len(m.loose) + 1
	}
	for pick > len(m.loose) {
		pick -= len(m.loose) + 1
	}
	m.synced, m.loose, m.dead, m.set = m.synced+m.loose[:pick], "", false, false
	return pick
}

// step does one thing to a disk and to its model: which, and with what, the two numbers say.
func step(t *testing.T, d *disk.Disk, m *model, what, n int8) {
	t.Helper()
	s := strings.Repeat(string(rune('a'+(n&15))), int(n&31))
	was := m.synced
	switch what & 15 {
	case 0, 1, 2, 3, 4:
		wants(t, "Append", d.Append([]byte(s)), m.add(s))
	case 5, 6, 7:
		wants(t, "Sync", d.Sync(), m.sync())
	case 8, 9:
		wants(t, "Cut", d.Cut(int(n)), m.cut(int(n)))
		was = was[:min(len(was), max(int(n), 0))]
	case 10:
		wants(t, "Swap", d.Swap([]byte(s)), m.swap(s))
		was = ""
	case 11, 12:
		d.Stop(int(n & 7))
		m.set, m.ahead, m.even = n&7 > 0, int(n&7)-1, n%2 == 0
	default:
		if got, want := d.Crash(int(n)), m.crash(int(n)); got != want {
			t.Errorf("Crash(%d): %d stayed, not %d", n, got, want)
		}
	}
	if d.Dead() != m.dead {
		t.Errorf("dead: %v", d.Dead())
	}
	stands(t, "behind a step", d, m.synced+m.loose, m.snap)
	if !strings.HasPrefix(string(d.Log()), was) {
		t.Errorf("P403: %q was synced, %q stands there", was, d.Log())
	}
}

// walk does what the bytes say, two a step.
func walk(t *testing.T, room int, b []byte) {
	t.Helper()
	d, _ := disk.New(room)
	m := &model{room: room}
	for i := 0; i+1 < len(b) && !t.Failed(); i += 2 {
		step(t, d, m, int8(b[i]), int8(b[i+1]))
	}
}

func TestP403Walks(t *testing.T) {
	r := rand.New(rand.NewSource(4))
	for _, room := range []int{1, 7, 30, 64, 100, 1000} {
		for range 300 {
			b := make([]byte, 400)
			r.Read(b)
			walk(t, room, b)
		}
	}
}

func FuzzP403(f *testing.F) {
	f.Add(uint16(100), []byte{0, 3, 5, 0, 0, 7, 13, 2})
	f.Add(uint16(9), []byte{0, 9, 11, 2, 5, 0, 8, 4, 13, 0, 10, 31})
	f.Fuzz(func(t *testing.T, room uint16, b []byte) {
		walk(t, int(room)+1, b)
	})
}

// addAll puts texts on a disk, each synced, as long as there is power: what was synced so.
func addAll(d *disk.Disk, texts ...string) (synced string) {
	for _, s := range texts {
		if d.Append([]byte(s)) != api.OK || d.Sync() != api.OK {
			return synced
		}
		synced += s
	}
	return synced
}

// TestP403SyncedStays has the power go at each operation of a row of them, and keeps each number of bytes.
func TestP403SyncedStays(t *testing.T) {
	for n := range 10 {
		for pick := range 7 {
			d := made(t, 20, "")
			d.Stop(n)
			synced := addAll(d, "one", "two", "", "three")
			all := string(d.Log())
			if d.Dead() != (n >= 1 && n <= 8) || !strings.HasPrefix(all, synced) {
				t.Errorf("stopped at %d: %q was synced, %q stands there, dead: %v", n, synced, all, d.Dead())
			}
			k := d.Crash(pick)
			if k != pick%(len(all)-len(synced)+1) || string(d.Log()) != all[:len(synced)+k] {
				t.Errorf("stopped at %d, pick %d: %q was synced of %q, %q is there", n, pick, synced, all, d.Log())
			}
		}
	}
}

func TestP403ASnapshotStays(t *testing.T) {
	d := made(t, 20, "log")
	d.Swap([]byte("snap"))
	for pick := -9; pick < 9; pick++ {
		d.Append([]byte("more"))
		d.Stop(1)
		d.Sync()
		d.Crash(pick)
		wants(t, "Cut", d.Cut(0), api.OK)
		stands(t, "crashed", d, "", "snap")
	}
}

func TestP2WhatIsHandedInIsNotKept(t *testing.T) {
	d := made(t, 20, "")
	for _, do := range []func([]byte) api.Errno{d.Append, d.Swap, d.Append, d.Append} {
		all := []byte("abcdef")
		wants(t, "handed in", do(all[:3]), api.OK)
		if string(all) != "abcdef" {
			t.Errorf("what was handed in, or its spare room, became %s", all)
		}
		clear(all)
	}
	stands(t, "behind a change of what was handed in", d, "abcabc", "abc")
}

func TestP2AnswersAreNewMemory(t *testing.T) {
	d := made(t, 40, "")
	d.Swap([]byte("snap"))
	d.Append([]byte("log"))
	a, b := d.Log(), d.Log()
	c, e := d.Snap(), d.Snap()
	for _, x := range [][]byte{a, c} {
		x = x[:cap(x)]
		for i := range x {
			x[i] = 'z'
		}
	}
	if string(b) != "log" || string(e) != "snap" {
		t.Errorf("answers share memory: %s, %s", b, e)
	}
	d.Append([]byte("more"))
	stands(t, "behind a change of what was answered", d, "logmore", "snap")
	if string(b) != "log" {
		t.Errorf("an answer became %s", b)
	}
	d.Cut(1)
	d.Append([]byte("XXXXXXXX"))
	d.Swap([]byte("SNAP"))
	if string(b) != "log" || string(e) != "snap" {
		t.Errorf("answers became %s, %s", b, e)
	}
}

func TestP3TheSameAgain(t *testing.T) {
	for range 3 {
		d := made(t, 9, "abc")
		d.Append([]byte("def"))
		d.Stop(3)
		wants(t, "Append", d.Append([]byte("ghij")), api.ErrFull)
		wants(t, "Append", d.Append([]byte("g")), api.OK)
		wants(t, "Append", d.Append([]byte("h")), api.OK)
		wants(t, "Swap", d.Swap([]byte("s")), api.ErrDead)
		if n := d.Crash(8); n != 2 {
			t.Errorf("%d stayed", n)
		}
		stands(t, "again", d, "abcde", "")
	}
}

func TestP7SideBySide(t *testing.T) {
	var all sync.WaitGroup
	for k := range 8 {
		all.Go(func() {
			b := make([]byte, 2000)
			rand.New(rand.NewSource(int64(k))).Read(b)
			walk(t, 100, b)
		})
	}
	all.Wait()
	a, b := made(t, 9, "a"), made(t, 9, "b")
	a.Stop(1)
	wants(t, "the other one", b.Append([]byte("c")), api.OK)
	wants(t, "the one", a.Append([]byte("c")), api.ErrDead)
	if b.Dead() || !a.Dead() {
		t.Error("the power of the other one is gone")
	}
	b.Swap([]byte("s"))
	a.Crash(1)
	stands(t, "the one", a, "ac", "")
	stands(t, "the other one", b, "", "s")
}
