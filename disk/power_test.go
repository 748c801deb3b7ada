package disk_test

import (
	"math"
	"testing"

	"capstan/api"
	"capstan/disk"
)

func TestP402Crash(t *testing.T) {
	for pick, want := range map[int]string{
		0: "old", 1: "olda", 2: "oldab", 3: "oldabc", 4: "old", 5: "olda", 7: "oldabc", 8: "old", 1<<40 + 1: "olda", math.MaxInt: "oldabc",
		-1: "oldabc", -2: "oldab", -3: "olda", -4: "old", -5: "oldabc", -8: "old", math.MinInt: "old", math.MinInt + 1: "olda",
	} {
		for _, dead := range []bool{false, true} {
			d := made(t, 9, "old")
			d.Append([]byte("a"))
			if dead {
				d.Stop(1)
			}
			d.Append([]byte("bc"))
			n := d.Crash(pick)
			if n != len(want)-3 || d.Dead() {
				t.Errorf("%d: %d stayed, dead: %v", pick, n, d.Dead())
			}
			stands(t, "crashed", d, want, "")
			stays(t, "crashed twice", d, want, "")
			wants(t, "all the room that is left", d.Append(make([]byte, 9-len(want))), api.OK)
		}
	}
}

func TestP402CrashOfAll(t *testing.T) {
	d := made(t, 9, "abc")
	d.Swap([]byte("snap"))
	for _, pick := range []int{0, 1, -1, 5, math.MaxInt, math.MinInt} {
		if n := d.Crash(pick); n != 0 {
			t.Errorf("%d: %d stayed, where all is synced", pick, n)
		}
		stands(t, "synced", d, "", "snap")
	}
	d.Append([]byte("abc")) // the example, beside a snapshot
	if n := d.Crash(2); n != 2 {
		t.Errorf("%d stayed", n)
	}
	stands(t, "crashed", d, "ab", "snap")
}

func TestP402TheExample(t *testing.T) {
	d, _ := disk.New(100)
	d.Append([]byte("abc"))
	if n := d.Crash(2); n != 2 {
		t.Errorf("%d stayed", n)
	}
	stands(t, "crashed", d, "ab", "")
}

// last is an operation that the power goes at, on a disk with log "abcd", of which "ab" is synced, and snapshot "s".
type last struct {
	name      string
	do        func(d *disk.Disk) api.Errno
	odd, even [2]string // the log that stands there, and what of it stays, the power gone at an odd, an even one
	snap      string    // the snapshot at an even one
}

func lasts() []last {
	kept := [2]string{"abcd", "ab"}
	return []last{
		{"Append", func(d *disk.Disk) api.Errno { return d.Append([]byte("ef")) }, [2]string{"abcdef", "ab"}, [2]string{"abcdef", "ab"}, "s"},
		{"Append of nothing", func(d *disk.Disk) api.Errno { return d.Append(nil) }, kept, kept, "s"},
		{"Sync", func(d *disk.Disk) api.Errno { return d.Sync() }, kept, kept, "s"},
		{"Cut", func(d *disk.Disk) api.Errno { return d.Cut(1) }, kept, [2]string{"a", "a"}, "s"},
		{"Cut of nothing", func(d *disk.Disk) api.Errno { return d.Cut(4) }, kept, [2]string{"abcd", "abcd"}, "s"},
		{"Cut of all", func(d *disk.Disk) api.Errno { return d.Cut(0) }, kept, [2]string{}, "s"},
		{"Swap", func(d *disk.Disk) api.Errno { return d.Swap([]byte("new")) }, kept, [2]string{}, "new"},
		{"Swap for nothing", func(d *disk.Disk) api.Errno { return d.Swap(nil) }, kept, [2]string{}, ""},
	}
}

func TestP402Stop(t *testing.T) {
	for _, x := range lasts() {
		for n := 1; n < 9; n++ {
			d := made(t, 9, "")
			d.Swap([]byte("s"))
			d.Append([]byte("ab"))
			d.Sync()
			d.Append([]byte("cd"))
			d.Stop(n)
			for range n - 1 { // each of nothing is an operation too, but changes nothing
				wants(t, "ahead of the last", d.Append(nil), api.OK)
			}
			if d.Dead() {
				t.Errorf("%s: dead ahead of the last of %d", x.name, n)
			}
			wants(t, x.name, x.do(d), api.ErrDead)
			if !d.Dead() {
				t.Errorf("%s: not dead behind the last of %d", x.name, n)
			}
			want, snap := x.odd, "s"
			if n%2 == 0 {
				want, snap = x.even, x.snap
			}
			stands(t, x.name, d, want[0], snap)
			wants(t, x.name+", without power", x.do(d), api.ErrDead)
			stands(t, x.name+", without power", d, want[0], snap)
			stays(t, x.name+", crashed", d, want[1], snap)
			wants(t, x.name+", with power", d.Sync(), api.OK)
		}
	}
}

// TestP402EachCounts has each operation ahead of the last one.
func TestP402EachCounts(t *testing.T) {
	d := made(t, 9, "abc")
	d.Stop(5)
	wants(t, "Append", d.Append([]byte("d")), api.OK)
	wants(t, "Sync", d.Sync(), api.OK)
	wants(t, "Cut", d.Cut(4), api.OK)
	wants(t, "Swap", d.Swap([]byte("s")), api.OK)
	wants(t, "the fifth", d.Append([]byte("x")), api.ErrDead)
	stays(t, "crashed", d, "", "s")
}

func TestP402WhatIsRefusedDoesNotCount(t *testing.T) {
	d := made(t, 3, "ab")
	d.Stop(2)
	refuse := func() {
		for range 3 {
			wants(t, "Append", d.Append(make([]byte, 2)), api.ErrFull)
			wants(t, "Swap", d.Swap(make([]byte, 4)), api.ErrFull)
			wants(t, "Cut", d.Cut(-1), api.ErrArg)
			wants(t, "Cut", d.Cut(4), api.ErrArg)
			d.Log()
			d.Snap()
			d.Dead()
		}
	}
	refuse()
	wants(t, "the first", d.Append([]byte("c")), api.OK)
	refuse()
	wants(t, "the second", d.Cut(1), api.ErrDead)
	stays(t, "an even one is done", d, "a", "")
}

func TestP402ALaterStop(t *testing.T) {
	for _, n := range []int{0, -1, -2, math.MinInt} {
		d := made(t, 9, "abc")
		d.Stop(1)
		d.Stop(n)
		for range 20 {
			wants(t, "no Stop is set", d.Sync(), api.OK)
		}
	}
	d := made(t, 9, "abc")
	d.Stop(2)
	wants(t, "the first", d.Sync(), api.OK)
	d.Stop(2) // from now on
	wants(t, "the first anew", d.Sync(), api.OK)
	wants(t, "the second anew", d.Cut(0), api.ErrDead)
	stays(t, "an even one is done", d, "", "")

	d = made(t, 9, "abc")
	d.Stop(4)
	d.Sync()
	d.Stop(1)
	wants(t, "the next one", d.Cut(0), api.ErrDead)
	stays(t, "an odd one is not done", d, "abc", "")
}

func TestP402AFarStop(t *testing.T) {
	d := made(t, 9, "abc")
	d.Stop(math.MaxInt)
	for range 1000 {
		wants(t, "not yet", d.Sync(), api.OK)
	}
	d.Stop(1000)
	for range 999 {
		wants(t, "not yet", d.Sync(), api.OK)
	}
	wants(t, "the thousandth", d.Swap([]byte("s")), api.ErrDead)
	stays(t, "an even one is done", d, "", "s")
}

func TestP402NoStopBehindACrash(t *testing.T) {
	d := made(t, 9, "abc")
	d.Stop(2)
	d.Sync()
	d.Crash(0) // with power
	for range 5 {
		wants(t, "behind a crash with power", d.Sync(), api.OK)
	}
	d.Stop(1)
	d.Sync()
	d.Stop(1) // without power: that is no operation, and gives none back
	if !d.Dead() {
		t.Error("a Stop brought the power back")
	}
	wants(t, "without power", d.Sync(), api.ErrDead)
	d.Stop(0)
	if !d.Dead() {
		t.Error("a Stop of none brought the power back")
	}
	d.Stop(1)
	d.Crash(0)
	for range 5 {
		wants(t, "behind a crash without power", d.Sync(), api.OK)
	}
	stands(t, "all the while", d, "abc", "")
}
