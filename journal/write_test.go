package journal_test

import (
	"slices"
	"testing"

	"capstan/api"
	"capstan/disk"
	"capstan/journal"
)

// counts wants that a journal counts so many.
func counts(t *testing.T, what string, j *journal.Journal, want int) {
	t.Helper()
	if j.Count() != want {
		t.Errorf("%s: it counts %d, not %d", what, j.Count(), want)
	}
}

func TestP501Add(t *testing.T) {
	for _, l := range [][]string{{"a"}, {""}, {"", ""}, {"one", "", "two", "three"}, {a, a[:5]}, {string(make([]byte, 600)), "b"}} {
		d, _ := disk.New(1000)
		j := opened(t, "a new one", d, "")
		for i, s := range l {
			wants(t, "Add", j.Add([]byte(s)), api.OK)
			counts(t, "Add", j, i+1)
			stands(t, "Add", d, laid(l[:i+1]...), "")
			d.Crash(0) // with power: all of it is synced
			stands(t, "synced", d, laid(l[:i+1]...), "")
			opened(t, "opened anew", d, "", l[:i+1]...)
		}
	}
	d, _ := disk.New(9)
	wants(t, "by hand", opened(t, "a new one", d, "").Add([]byte("a")), api.OK)
	stands(t, "by hand", d, a, "")
}

func TestP501AddOfNoList(t *testing.T) {
	d, _ := disk.New(16)
	j := opened(t, "a new one", d, "")
	wants(t, "no list", j.Add(nil), api.OK)
	wants(t, "an empty one", j.Add([]byte{}), api.OK)
	wants(t, "no room for one more", j.Add(nil), api.ErrFull)
	counts(t, "two", j, 2)
	opened(t, "opened anew", d, "", "", "")
}

func TestP501AddWithoutRoom(t *testing.T) {
	d := with(t, 60, framed("snap"), laid("one"))
	j := opened(t, "not full", d, "snap", "one")
	for range 3 {
		wants(t, "one byte too many", j.Add(make([]byte, 60-12-11-8+1)), api.ErrFull)
		counts(t, "refused", j, 1)
		stands(t, "refused", d, laid("one"), framed("snap"))
	}
	noOperation(t, "refused", d, func() { j.Add(make([]byte, 60)) })
	last := string(make([]byte, 60-12-11-8))
	wants(t, "all the room", j.Add([]byte(last)), api.OK)
	counts(t, "full", j, 2)
	wants(t, "full", j.Add(nil), api.ErrFull)
	opened(t, "full", d, "snap", "one", last)
}

func TestP501TooLong(t *testing.T) {
	most := make([]byte, 1<<22)
	d, _ := disk.New(1 << 24)
	j := opened(t, "a new one", d, "")
	noOperation(t, "too long", d, func() {
		wants(t, "Add of one too many", j.Add(append(most, 1)), api.ErrLong)
		wants(t, "Snap of one too many", j.Snap(append(most, 1)), api.ErrLong)
	})
	counts(t, "refused", j, 0)
	wants(t, "Add of the most", j.Add(most), api.OK)
	wants(t, "Snap of one too many", j.Snap(append(most, 1)), api.ErrLong)
	counts(t, "refused", j, 1)
	opened(t, "opened anew", d, "", string(most))
	wants(t, "Snap of the most", j.Snap(most), api.OK)
	opened(t, "opened anew", d, string(most))
}

// TestP501FramesErrorIsTheFirst has ErrLong ahead of ErrFull, and of ErrDead.
func TestP501FramesErrorIsTheFirst(t *testing.T) {
	d, _ := disk.New(8)
	j := opened(t, "a new one", d, "")
	long := make([]byte, 1<<22+1)
	wants(t, "Add, no room", j.Add(long), api.ErrLong)
	wants(t, "Snap, no room", j.Snap(long), api.ErrLong)
	d.Stop(1)
	d.Sync()
	wants(t, "Add, no power", j.Add(long), api.ErrLong)
	wants(t, "Snap, no power", j.Snap(long), api.ErrLong)
	wants(t, "Add, neither room nor power", j.Add([]byte("a")), api.ErrDead)
	wants(t, "Snap, neither room nor power", j.Snap([]byte("a")), api.ErrDead)
}

// TestP501AddWhereThePowerGoes has it go at the Append, at the Sync, and at what comes behind them.
func TestP501AddWhereThePowerGoes(t *testing.T) {
	for n := 1; n < 6; n++ {
		for pick := range 12 {
			d := with(t, 100, framed("snap"), laid("one"))
			j := opened(t, "with power", d, "snap", "one")
			d.Stop(n)
			log, added := laid("one"), 1
			for !d.Dead() {
				e, want := j.Add([]byte("new")), api.OK
				if d.Dead() {
					want = api.ErrDead
				} else {
					added++
				}
				log += framed("new")
				wants(t, "Add", e, want)
				counts(t, "Add", j, added)
				stands(t, "Add", d, log, framed("snap"))
			}
			if added != 1+(n-1)/2 {
				t.Errorf("the power goes at %d: %d were added", n, added-1)
			}
			wants(t, "without power", j.Add(nil), api.ErrDead)
			counts(t, "without power", j, added)
			stands(t, "without power", d, log, framed("snap"))
			d.Crash(pick)
			l := append([]string{"one"}, slices.Repeat([]string{"new"}, added-1)...)
			if pick == 11 { // the last one stays, whole
				l = append(l, "new")
			}
			opened(t, "with power", d, "snap", l...)
		}
	}
}

func TestP501Snap(t *testing.T) {
	d, _ := disk.New(60)
	j := opened(t, "a new one", d, "")
	for i, s := range []string{"snap", "", a, string(make([]byte, 52)), "x"} {
		wants(t, "Snap", j.Snap([]byte(s)), api.OK)
		counts(t, "Snap", j, 0)
		stands(t, "Snap", d, "", framed(s))
		opened(t, "opened anew", d, s)
		for range i {
			j.Add(nil)
		}
	}
	counts(t, "Add behind Snap", j, 4)
	opened(t, "Add behind Snap", d, "x", "", "", "", "")
	wants(t, "no list", j.Snap(nil), api.OK)
	stands(t, "no list", d, "", framed(""))
	counts(t, "no list", j, 0)
}

func TestP501SnapWithoutRoom(t *testing.T) {
	d := with(t, 60, framed("snap"), laid("one", "two"))
	j := opened(t, "not full", d, "snap", "one", "two")
	for range 3 {
		wants(t, "one byte too many", j.Snap(make([]byte, 53)), api.ErrFull)
		counts(t, "refused", j, 2)
		stands(t, "refused", d, laid("one", "two"), framed("snap"))
	}
	noOperation(t, "refused", d, func() { j.Snap(make([]byte, 60)) })
	wants(t, "all the room, the log's too", j.Snap(make([]byte, 52)), api.OK)
	counts(t, "swapped", j, 0)
	wants(t, "full", j.Add(nil), api.ErrFull)
	wants(t, "the old one's room", j.Snap([]byte("s")), api.OK)
	wants(t, "room again", j.Add([]byte("three")), api.OK)
	opened(t, "opened anew", d, "s", "three")
}

func TestP501SnapWhereThePowerGoes(t *testing.T) {
	for n := 1; n < 6; n++ {
		d := with(t, 100, framed("old"), laid("one", "two"))
		j := opened(t, "with power", d, "old", "one", "two")
		d.Stop(n)
		for range n - 1 {
			d.Sync()
		}
		wants(t, "Snap", j.Snap([]byte("new")), api.ErrDead)
		counts(t, "Snap", j, 2)
		wants(t, "without power", j.Snap([]byte("newer")), api.ErrDead)
		counts(t, "without power", j, 2)
		d.Crash(0)
		if n%2 == 0 { // a Swap is done, where an even one is the last
			opened(t, "with power", d, "new")
		} else {
			opened(t, "with power", d, "old", "one", "two")
		}
	}
}

// TestP501SnapIsOneOperation has the power go at the second one.
func TestP501SnapIsOneOperation(t *testing.T) {
	d := with(t, 100, "", laid("one"))
	j := opened(t, "with power", d, "", "one")
	d.Stop(2)
	wants(t, "the first", j.Snap([]byte("s")), api.OK)
	counts(t, "the first", j, 0)
	wants(t, "the second", j.Snap([]byte("t")), api.ErrDead)
	counts(t, "the second", j, 0)
}

func TestP501Count(t *testing.T) {
	d := with(t, 200, framed("snap"), laid("one", "two", "three")+"torn")
	j := opened(t, "three", d, "snap", "one", "two", "three")
	for i := range 5 {
		j.Add(nil)
		counts(t, "Add", j, 4+i)
	}
	noOperation(t, "Count", d, func() { counts(t, "Count", j, 8) })
	j.Add(make([]byte, 200))
	j.Snap(make([]byte, 200))
	counts(t, "refused", j, 8)
	j.Snap(nil)
	counts(t, "Snap", j, 0)
	j.Snap(make([]byte, 200))
	counts(t, "refused", j, 0)
	j.Add(nil)
	d.Stop(1)
	d.Sync()
	counts(t, "without power", j, 1)
}

func TestP1AJournalThatNoOpenMade(t *testing.T) {
	var j journal.Journal
	for _, b := range [][]byte{nil, {1}, make([]byte, 1<<22+1)} {
		if j.Add(b) == api.OK || j.Snap(b) == api.OK {
			t.Error("written, where there is no disk")
		}
	}
	counts(t, "no disk", &j, 0)
}
