package journal_test

import (
	"math/rand"
	"slices"
	"strings"
	"testing"

	"capstan/api"
	"capstan/disk"
	"capstan/journal"
)

// kept is a snapshot and the records behind it.
type kept struct {
	snap string
	l    []string
}

func (k kept) added(s string) kept { return kept{k.snap, append(slices.Clone(k.l), s)} }

func (k kept) same(o kept) bool { return k.snap == o.snap && slices.Equal(k.l, o.l) }

// size is how much room it takes; a snapshot that never was takes none.
func (k kept) size(never bool) int {
	n := len(laid(k.l...))
	if !never {
		n += len(framed(k.snap))
	}
	return n
}

// model is a journal as the chapter tells it: what stays, and what the call that the power went at would have made of it.
type model struct {
	room        int
	sure, maybe kept
	never       bool // there is no snapshot
	dead        bool
}

// step does one thing to a journal and to its model: which, and with what, the two numbers say.
func step(t *testing.T, d *disk.Disk, j *journal.Journal, m *model, what, n byte) *journal.Journal {
	t.Helper()
	s := strings.Repeat(string(rune('a'+n&15)), int(n&31))
	switch what & 15 {
	case 0, 1, 2, 3, 4, 5, 6:
		m.write(t, d, "Add", j.Add([]byte(s)), m.sure.added(s), m.sure.added(s).size(m.never), false)
	case 7, 8:
		m.write(t, d, "Snap", j.Snap([]byte(s)), kept{snap: s}, len(framed(s)), true)
	case 9:
		if !m.dead {
			return m.open(t, d)
		}
		refused(t, "without power", d, api.ErrDead)
	case 10, 11, 12, 13:
		d.Stop(int(n & 7))
	default:
		d.Crash(int(n))
		return m.open(t, d)
	}
	if j.Count() != len(m.sure.l) {
		t.Errorf("it counts %d, not %d", j.Count(), len(m.sure.l))
	}
	return j
}

// write wants the error of a call that makes next of what stays, and takes so much room in all.
func (m *model) write(t *testing.T, d *disk.Disk, what string, e api.Errno, next kept, size int, swap bool) {
	t.Helper()
	switch {
	case m.dead:
		wants(t, what+", without power", e, api.ErrDead)
	case size > m.room:
		wants(t, what+", without room", e, api.ErrFull)
	case d.Dead():
		wants(t, what+", at which the power goes", e, api.ErrDead)
		m.dead, m.maybe = true, next
	default:
		wants(t, what, e, api.OK)
		m.sure, m.maybe, m.never = next, next, m.never && !swap
	}
}

// open opens anew: what is there is what stays then.
func (m *model) open(t *testing.T, d *disk.Disk) *journal.Journal {
	t.Helper()
	d.Stop(0)
	j, snap, l, e := journal.Open(d)
	if e != api.OK || j.Count() != len(l) {
		t.Fatalf("not opened: %v", e)
	}
	k := kept{string(snap), texts(l)}
	if !k.same(m.sure) && !k.same(m.maybe) {
		t.Errorf("P502: %.80q, neither %.80q nor %.80q", k, m.sure, m.maybe)
	}
	m.sure, m.maybe, m.never, m.dead = k, k, len(d.Snap()) == 0, false
	stands(t, "opened", d, laid(k.l...), string(d.Snap()))
	return j
}

// walk does what the bytes say, two a step.
func walk(t *testing.T, room int, b []byte) {
	t.Helper()
	d, _ := disk.New(room)
	m := &model{room: room, never: true}
	j := m.open(t, d)
	for i := 0; i+1 < len(b) && !t.Failed(); i += 2 {
		j = step(t, d, j, m, b[i], b[i+1])
	}
}

func TestP502Walks(t *testing.T) {
	r := rand.New(rand.NewSource(5))
	for _, room := range []int{1, 8, 30, 64, 100, 300, 1000} {
		for range 300 {
			b := make([]byte, 400)
			r.Read(b)
			walk(t, room, b)
		}
	}
}

func FuzzP502(f *testing.F) {
	f.Add(uint16(100), []byte{0, 3, 7, 5, 0, 7, 10, 2, 0, 4, 14, 9})
	f.Add(uint16(300), []byte{0, 3, 0, 5, 10, 1, 7, 7, 14, 0, 0, 4, 9, 0})
	f.Fuzz(func(t *testing.T, room uint16, b []byte) {
		walk(t, int(room)+1, b)
	})
}

// TestP502WhereverThePowerGoes has it go at each operation of a row of calls, and keeps each number of bytes of the last one; then once more, while it is opened anew.
func TestP502WhereverThePowerGoes(t *testing.T) {
	calls := []string{"one", "", "snap 1", "two", "three", "snap 2", "snap 3", "four", ""}
	for n := range 20 {
		for pick := range 16 {
			d, _ := disk.New(200)
			j := opened(t, "a new one", d, "")
			var was, is kept
			d.Stop(n)
			for _, s := range calls {
				var e api.Errno
				if was = is; strings.HasPrefix(s, "snap") {
					is, e = kept{snap: s}, j.Snap([]byte(s))
				} else {
					is, e = is.added(s), j.Add([]byte(s))
				}
				if e != api.OK {
					break
				}
				was = is
			}
			if d.Dead() != (n >= 1 && n <= 15) {
				t.Errorf("stopped at %d: dead: %v", n, d.Dead())
			}
			d.Crash(pick)
			reopened(t, d, n, was, is)
		}
	}
}

// reopened wants one of both on a disk that is opened anew, though the power goes at that too, and what it says once more.
func reopened(t *testing.T, d *disk.Disk, n int, was, is kept) {
	t.Helper()
	d.Stop(1 + n%2)
	if _, _, _, e := journal.Open(d); e != api.OK {
		d.Crash(n)
	}
	d.Stop(0)
	_, snap, l, e := journal.Open(d)
	k := kept{string(snap), texts(l)}
	if e != api.OK || !k.same(was) && !k.same(is) {
		t.Errorf("stopped at %d: %v, %q, neither %q nor %q", n, e, k, was, is)
	}
	opened(t, "opened once more", d, k.snap, k.l...)
}

// TestP502AgainAndAgain loses the power at each write, and each time something of it stays.
func TestP502AgainAndAgain(t *testing.T) {
	d, _ := disk.New(1000)
	var l []string
	for i := range 60 {
		j := opened(t, "opened anew", d, "", l...)
		s := strings.Repeat("r", i%4)
		wants(t, "Add", j.Add([]byte(s)), api.OK)
		l = append(l, s)
		d.Stop(1 + i%2)
		wants(t, "Add, at which the power goes", j.Add([]byte("lost")), api.ErrDead)
		d.Crash(i % 12) // of 12 bytes: not all of them
	}
	opened(t, "in the end", d, "", l...)
}
