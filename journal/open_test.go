package journal_test

import (
	"encoding/binary"
	"hash/crc32"
	"slices"
	"testing"

	"capstan/api"
	"capstan/disk"
	"capstan/journal"
)

// a is a frame, by hand.
const a = "\x01\x00\x00\x00\x43\xbe\xb7\xe8a"

// framed is a record's frame, by the library.
func framed(s string) string {
	f := binary.LittleEndian.AppendUint32(nil, uint32(len(s)))
	f = binary.LittleEndian.AppendUint32(f, crc32.ChecksumIEEE([]byte(s)))
	return string(f) + s
}

// laid is records' frames, one behind the other.
func laid(l ...string) (log string) {
	for _, s := range l {
		log += framed(s)
	}
	return log
}

// texts is a list of bytes as one of texts.
func texts(l [][]byte) (s []string) {
	for _, b := range l {
		s = append(s, string(b))
	}
	return s
}

// wants fails where a call answered something else.
func wants(t *testing.T, what string, got, want api.Errno) {
	t.Helper()
	if got != want {
		t.Errorf("%s: %v, not %v", what, got, want)
	}
}

// stands wants these bytes on a disk.
func stands(t *testing.T, what string, d *disk.Disk, log, snap string) {
	t.Helper()
	if string(d.Log()) != log || string(d.Snap()) != snap {
		t.Errorf("%s: log %.80q, snapshot %.80q, not %.80q, %.80q", what, d.Log(), d.Snap(), log, snap)
	}
}

// with is a disk on which these bytes stand, synced.
func with(t *testing.T, room int, snap, log string) *disk.Disk {
	t.Helper()
	d, e := disk.New(room)
	if e != api.OK || d.Swap([]byte(snap)) != api.OK || d.Append([]byte(log)) != api.OK || d.Sync() != api.OK {
		t.Fatalf("no disk with room for %d: %v", room, e)
	}
	return d
}

// opened is a disk's journal, of which one wants to be told this.
func opened(t *testing.T, what string, d *disk.Disk, snap string, l ...string) *journal.Journal {
	t.Helper()
	j, s, k, e := journal.Open(d)
	if e != api.OK || j == nil {
		t.Fatalf("%s: not opened: %v", what, e)
	}
	if string(s) != snap || !slices.Equal(texts(k), l) {
		t.Errorf("%s: snapshot %.80q, records %.80q, not %.80q, %.80q", what, s, k, snap, l)
	}
	if j.Count() != len(l) {
		t.Errorf("%s: it counts %d, not %d", what, j.Count(), len(l))
	}
	return j
}

// refused wants that a disk is not opened, and that nothing is told.
func refused(t *testing.T, what string, d *disk.Disk, want api.Errno) {
	t.Helper()
	j, s, k, e := journal.Open(d)
	if e != want || j != nil || len(s) > 0 || len(k) > 0 {
		t.Errorf("%s: %v, not %v, beside %v, %.80q, %.80q", what, e, want, j, s, k)
	}
}

// noOperation wants that do needs none: at the next one the power would have gone.
func noOperation(t *testing.T, what string, d *disk.Disk, do func()) {
	t.Helper()
	d.Stop(1)
	do()
	if d.Dead() {
		t.Errorf("%s: an operation", what)
	}
	d.Stop(0)
}

// badTails are bytes that no frame begins.
func badTails() []string {
	return []string{
		"x", a[:1], a[:7], a[:8], "\x00\x00\x00\x00\x00\x00\x00", a[:8] + "b", "\x01\x00\x00\x00\x43\xbe\xb7\xe9a", "\x02\x00\x00\x00\x43\xbe\xb7\xe8a",
		"\x01\x00\x40\x00\x00\x00\x00\x00x", "\xff\xff\xff\xff\xff\xff\xff\xff", "torn and torn and torn",
	}
}

func TestP501OpenOfANewOne(t *testing.T) {
	for _, room := range []int{1, 7, 8, 100, 1 << 24} {
		d, _ := disk.New(room)
		noOperation(t, "a new one", d, func() { opened(t, "a new one", d, "") })
		opened(t, "a new one, again", d, "")
		stands(t, "a new one", d, "", "")
	}
}

func TestP501OpenTellsRecords(t *testing.T) {
	for _, l := range [][]string{{"a"}, {""}, {"", "", ""}, {"one", "", "three"}, {a}, {a + a[:4], "b"}, {string(make([]byte, 300))}} {
		for _, s := range []string{"", "snap", a} {
			d := with(t, 1000, framed(s), laid(l...))
			noOperation(t, "whole ones", d, func() { opened(t, "whole ones", d, s, l...) })
			opened(t, "whole ones, again", d, s, l...)
			stands(t, "whole ones", d, laid(l...), framed(s))
		}
	}
	opened(t, "by hand", with(t, 100, a, a+a), "a", "a", "a")
}

func TestP501OpenCutsWhatStandsBehind(t *testing.T) {
	for _, tail := range badTails() {
		for _, l := range [][]string{nil, {"a"}, {"one", "", "three"}} {
			for _, more := range []string{"", a, a + a} { // whole ones behind it are not told
				d := with(t, 1000, framed("snap"), laid(l...)+tail+more)
				opened(t, "cut", d, "snap", l...)
				stands(t, "cut", d, laid(l...), framed("snap"))
				j := opened(t, "opened again", d, "snap", l...)
				wants(t, "behind the cut", j.Add([]byte("new")), api.OK)
				d.Crash(0)
				opened(t, "behind the cut", d, "snap", append(slices.Clone(l), "new")...)
			}
		}
	}
}

// TestP501OpenCutsOnce has the power go at the second operation: the cut is the first one.
func TestP501OpenCutsOnce(t *testing.T) {
	d := with(t, 100, "", a+"torn")
	d.Stop(2)
	opened(t, "cut", d, "", "a")
	stands(t, "cut", d, a, "")
	noOperation(t, "nothing stands behind", d, func() { opened(t, "again", d, "", "a") })
	d.Stop(1)
	wants(t, "the next one", d.Sync(), api.ErrDead)
}

func TestP501OpenSyncsByItsCutAlone(t *testing.T) {
	d := with(t, 100, "", a)
	d.Append([]byte(a))
	opened(t, "not synced", d, "", "a", "a")
	d.Crash(0)
	opened(t, "lost", d, "", "a")
	d.Append([]byte(a + "torn"))
	opened(t, "cut", d, "", "a", "a")
	d.Crash(0)
	opened(t, "synced by the cut", d, "", "a", "a")
}

func TestP501OpenWhereThePowerGoesAtTheCut(t *testing.T) {
	for n := 1; n < 5; n++ {
		d := with(t, 100, framed("snap"), a+a+"torn")
		d.Stop(n)
		for range n - 1 {
			d.Sync()
		}
		refused(t, "the power goes", d, api.ErrDead)
		log := a + a + "torn"
		if n%2 == 0 { // a Cut is done, where an even one is the last
			log = a + a
		}
		stands(t, "the power went", d, log, framed("snap"))
		refused(t, "without power", d, api.ErrDead)
		stands(t, "without power", d, log, framed("snap"))
		d.Crash(0)
		opened(t, "with power", d, "snap", "a", "a")
		stands(t, "with power", d, a+a, framed("snap"))
	}
}

func TestP501OpenWithoutPower(t *testing.T) {
	for _, snap := range []string{"", framed("snap"), "bad"} {
		for _, log := range []string{"", a, a + "torn"} {
			d := with(t, 100, snap, log)
			d.Stop(1)
			d.Sync()
			refused(t, "without power", d, api.ErrDead)
			stands(t, "without power", d, log, snap)
		}
	}
}

func TestP501OpenOfABadSnapshot(t *testing.T) {
	for _, snap := range append(badTails(), a+"x", a+a, framed("snap")[1:], "no frame at all") {
		for _, log := range []string{"", a, a + "torn", "torn"} {
			d := with(t, 100, snap, log)
			noOperation(t, "a bad snapshot", d, func() { refused(t, "a bad snapshot", d, api.ErrBad) })
			refused(t, "a bad snapshot, again", d, api.ErrBad)
			stands(t, "a bad snapshot", d, log, snap)
		}
	}
}

func TestP501OpenOfEmptySnapshots(t *testing.T) {
	opened(t, "none", with(t, 100, "", a), "", "a")
	opened(t, "one of no bytes", with(t, 100, framed(""), a), "", "a")
	opened(t, "noughts", with(t, 100, string(make([]byte, 8)), string(make([]byte, 17))), "", "", "")
}

func TestP501OpenOfTheGreatest(t *testing.T) {
	s := string(make([]byte, 1<<22))
	d := with(t, 1<<24, framed(s), laid(s, "a", s))
	opened(t, "of 2^22 bytes", d, s, s, "a", s)
	long := "\x01\x00\x40\x00\x00\x00\x00\x00"
	d = with(t, 1<<24, "", a+long+s+"x")
	opened(t, "of one byte more", d, "", "a")
	stands(t, "of one byte more", d, a, "")
	refused(t, "of one byte more", with(t, 1<<24, long+s+"x", ""), api.ErrBad)
}
