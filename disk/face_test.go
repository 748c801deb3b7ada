package disk_test

import (
	"bytes"
	"math"
	"testing"

	"capstan/api"
	"capstan/disk"
)

// made is a disk on whose log that stands, synced.
func made(t *testing.T, room int, log string) *disk.Disk {
	t.Helper()
	d, e := disk.New(room)
	if e != api.OK || d == nil {
		t.Fatalf("room for %d: %v", room, e)
	}
	if d.Append([]byte(log)) != api.OK || d.Sync() != api.OK {
		t.Fatalf("room for %d: no %q", room, log)
	}
	return d
}

// wants fails where a call answered something else.
func wants(t *testing.T, what string, got, want api.Errno) {
	t.Helper()
	if got != want {
		t.Errorf("%s: %v, not %v", what, got, want)
	}
}

// stands wants these bytes on a disk.
func stands(t *testing.T, what string, d *disk.Disk, log, snap string) {
	t.Helper()
	if string(d.Log()) != log || string(d.Snap()) != snap {
		t.Errorf("%s: log %.40q, snapshot %.40q, not %.40q, %.40q", what, d.Log(), d.Snap(), log, snap)
	}
}

// stays wants these bytes on a disk behind a crash that keeps the least.
func stays(t *testing.T, what string, d *disk.Disk, log, snap string) {
	t.Helper()
	if n := d.Crash(0); n != 0 || d.Dead() {
		t.Errorf("%s: %d bytes stayed, dead: %v", what, n, d.Dead())
	}
	stands(t, what, d, log, snap)
}

func TestP401New(t *testing.T) {
	for room, want := range map[int]api.Errno{
		0: api.ErrArg, -1: api.ErrArg, math.MinInt: api.ErrArg, 1<<24 + 1: api.ErrArg, 1 << 32: api.ErrArg, 1<<32 + 1: api.ErrArg, math.MaxInt: api.ErrArg,
		1: api.OK, 2: api.OK, 1<<24 - 1: api.OK, 1 << 24: api.OK,
	} {
		d, e := disk.New(room)
		if e != want || (d != nil) != (want == api.OK) {
			t.Errorf("%d: %v, not %v", room, e, want)
		}
		if d != nil {
			stands(t, "a new one", d, "", "")
			wants(t, "one more byte than there is room for", d.Append(make([]byte, room+1)), api.ErrFull)
			stays(t, "a new one", d, "", "")
		}
	}
}

func TestP401Append(t *testing.T) {
	d := made(t, 6, "")
	for _, s := range []string{"ab", "", "c", "def", ""} {
		wants(t, "Append", d.Append([]byte(s)), api.OK)
	}
	wants(t, "no list, where all is full", d.Append(nil), api.OK)
	wants(t, "a byte, where all is full", d.Append([]byte{0}), api.ErrFull)
	stands(t, "full", d, "abcdef", "")
	stays(t, "none was synced", d, "", "")

	d = made(t, 6, "abc")
	wants(t, "one too many", d.Append([]byte("defg")), api.ErrFull)
	stands(t, "refused", d, "abc", "")
	wants(t, "all the room", d.Append([]byte("def")), api.OK)
	stays(t, "the synced ones", d, "abc", "")
	wants(t, "the room of the lost ones", d.Append([]byte("DEF")), api.OK)
	stands(t, "behind the synced ones", d, "abcDEF", "")
}

func TestP401AppendBesideASnapshot(t *testing.T) {
	d := made(t, 6, "abcdef")
	wants(t, "Swap", d.Swap([]byte("1234")), api.OK)
	wants(t, "more than is left", d.Append([]byte("abc")), api.ErrFull)
	wants(t, "what is left", d.Append([]byte("ab")), api.OK)
	wants(t, "more than is left", d.Append([]byte("c")), api.ErrFull)
	stands(t, "full", d, "ab", "1234")
	wants(t, "a shorter one", d.Swap([]byte("1")), api.OK)
	wants(t, "its room", d.Append([]byte("abcde")), api.OK)
	stands(t, "full", d, "abcde", "1")
}

func TestP401Sync(t *testing.T) {
	d := made(t, 9, "")
	for _, s := range []string{"abc", "", "de"} {
		d.Append([]byte(s))
		wants(t, "Sync", d.Sync(), api.OK)
		wants(t, "Sync, twice", d.Sync(), api.OK)
	}
	d.Append([]byte("fg"))
	stands(t, "all", d, "abcdefg", "")
	stays(t, "what was synced", d, "abcde", "")
}

func TestP401Cut(t *testing.T) {
	for n := range 8 {
		d := made(t, 7, "abc")
		d.Append([]byte("defg"))
		for _, bad := range []int{-1, 8, math.MinInt, math.MaxInt, 1 << 32} {
			wants(t, "Cut", d.Cut(bad), api.ErrArg)
		}
		stands(t, "refused", d, "abcdefg", "")
		wants(t, "Cut", d.Cut(n), api.OK)
		stands(t, "cut", d, "abcdefg"[:n], "")
		wants(t, "beyond what is left", d.Cut(n+1), api.ErrArg)
		stays(t, "synced", d, "abcdefg"[:n], "")
		wants(t, "more than the room of what is gone", d.Append(make([]byte, 8-n)), api.ErrFull)
		wants(t, "the room of what is gone", d.Append([]byte("ABCDEFG")[n:]), api.OK)
		stands(t, "written anew", d, "abcdefg"[:n]+"ABCDEFG"[n:], "")
		stays(t, "what was synced by the cut", d, "abcdefg"[:n], "")
	}
	d := made(t, 1, "")
	wants(t, "an empty one", d.Cut(1), api.ErrArg)
	wants(t, "an empty one", d.Cut(0), api.OK)
}

func TestP401ARefusedCutSyncsNothing(t *testing.T) {
	d := made(t, 9, "ab")
	d.Append([]byte("cd"))
	wants(t, "Cut", d.Cut(5), api.ErrArg)
	wants(t, "Swap", d.Swap(make([]byte, 10)), api.ErrFull)
	wants(t, "Append", d.Append(make([]byte, 6)), api.ErrFull)
	stays(t, "refused", d, "ab", "")
}

func TestP401CutLeavesTheSnapshot(t *testing.T) {
	d := made(t, 9, "")
	d.Swap([]byte("snap"))
	d.Append([]byte("log"))
	wants(t, "the log's length, not all", d.Cut(4), api.ErrArg)
	wants(t, "Cut", d.Cut(1), api.OK)
	stays(t, "cut", d, "l", "snap")
}

func TestP401Swap(t *testing.T) {
	d := made(t, 6, "abc")
	d.Append([]byte("def"))
	wants(t, "one too many", d.Swap([]byte("1234567")), api.ErrFull)
	stands(t, "refused", d, "abcdef", "")
	wants(t, "all the room, the log's too", d.Swap([]byte("123456")), api.OK)
	stands(t, "swapped", d, "", "123456")
	stays(t, "swapped", d, "", "123456")
	wants(t, "one too many", d.Swap(make([]byte, 7)), api.ErrFull)
	wants(t, "the old one's room", d.Swap([]byte("654321")), api.OK)
	stays(t, "swapped", d, "", "654321")
	wants(t, "no list", d.Swap(nil), api.OK)
	stays(t, "empty", d, "", "")
	wants(t, "all the room", d.Append([]byte("ABCDEF")), api.OK)
	stays(t, "none was synced", d, "", "")
}

func TestP401WithoutPower(t *testing.T) {
	d := made(t, 6, "ab")
	d.Swap([]byte("1"))
	d.Append([]byte("abc"))
	d.Stop(1)
	wants(t, "Sync", d.Sync(), api.ErrDead)
	for range 3 {
		for _, b := range [][]byte{nil, {1}, make([]byte, 7), make([]byte, 1<<24+1)} {
			wants(t, "Append", d.Append(b), api.ErrDead)
			wants(t, "Swap", d.Swap(b), api.ErrDead)
		}
		for _, n := range []int{0, 1, 3, 4, -1, math.MinInt, math.MaxInt} {
			wants(t, "Cut", d.Cut(n), api.ErrDead)
		}
		wants(t, "Sync", d.Sync(), api.ErrDead)
		if !d.Dead() {
			t.Error("the power is there again")
		}
		stands(t, "without power", d, "abc", "1")
	}
	if n := d.Crash(3); n != 3 || d.Dead() {
		t.Errorf("%d bytes stayed, dead: %v", n, d.Dead())
	}
	wants(t, "with power", d.Append([]byte("de")), api.OK)
	stands(t, "with power", d, "abcde", "1")
}

func TestP401TheGreatestRoom(t *testing.T) {
	const most = 1 << 24
	d := made(t, most, "")
	half := bytes.Repeat([]byte("half"), most/8)
	wants(t, "half", d.Append(half), api.OK)
	wants(t, "more than half", d.Append(append(half, 1)), api.ErrFull)
	wants(t, "all", d.Append(half), api.OK)
	wants(t, "one more", d.Append([]byte{1}), api.ErrFull)
	if !bytes.Equal(d.Log(), append(half, half...)) {
		t.Error("another log")
	}
	if n := d.Crash(most - 1); n != most-1 || len(d.Log()) != most-1 {
		t.Errorf("%d stayed", n)
	}
	wants(t, "all", d.Swap(make([]byte, most)), api.OK)
	wants(t, "one more", d.Swap(make([]byte, most+1)), api.ErrFull)
	if len(d.Snap()) != most || len(d.Log()) != 0 {
		t.Error("another snapshot")
	}
}
