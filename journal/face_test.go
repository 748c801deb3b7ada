package journal_test

import (
	"math/rand"
	"strconv"
	"strings"
	"testing"

	"capstan/api"
	"capstan/disk"
	"capstan/journal"
)

func TestP2WhatIsHandedInIsNotKept(t *testing.T) {
	d, _ := disk.New(100)
	j := opened(t, "a new one", d, "")
	for _, do := range []func([]byte) api.Errno{j.Snap, j.Add, j.Add} {
		all := []byte("abcdef")
		wants(t, "handed in", do(all[:3]), api.OK)
		if string(all) != "abcdef" {
			t.Errorf("what was handed in, or its spare room, became %s", all)
		}
		clear(all)
	}
	opened(t, "behind a change of what was handed in", d, "abc", "abc", "abc")
}

// spoil changes a list, and its spare room.
func spoil(b []byte) {
	b = b[:cap(b)]
	for i := range b {
		b[i] = 'z'
	}
}

func TestP2AnswersAreNewMemory(t *testing.T) {
	d := with(t, 200, framed("snap"), laid("one", "", "three"))
	_, snap, l, _ := journal.Open(d)
	_, snap2, l2, _ := journal.Open(d)
	for i := range l {
		spoil(l[i])
		if rest := strings.Join(texts(l[i+1:]), ","); rest != "three" && rest != ",three" && rest != "" {
			t.Errorf("lists share memory: %s", rest)
		}
	}
	if string(snap) != "snap" {
		t.Errorf("snapshot and records share memory: %s", snap)
	}
	spoil(snap)
	if string(snap2) != "snap" || strings.Join(texts(l2), ",") != "one,,three" {
		t.Errorf("answers share memory: %s, %s", snap2, l2)
	}
	j := opened(t, "behind a change of what was answered", d, "snap", "one", "", "three")
	j.Snap([]byte("SNAP"))
	j.Add([]byte("ONE"))
	if string(snap2) != "snap" || strings.Join(texts(l2), ",") != "one,,three" {
		t.Errorf("answers became %s, %s", snap2, l2)
	}
}

func TestP3TheSameAgain(t *testing.T) {
	for range 3 {
		d := with(t, 60, framed("snap"), laid("one")+"torn")
		j := opened(t, "the first time", d, "snap", "one")
		wants(t, "Add", j.Add([]byte("two")), api.OK)
		wants(t, "Add", j.Add(make([]byte, 50)), api.ErrFull)
		d.Stop(2)
		wants(t, "Add", j.Add([]byte("x")), api.ErrDead)
		wants(t, "Snap", j.Snap([]byte("x")), api.ErrDead)
		d.Crash(8)
		opened(t, "the second time", d, "snap", "one", "two")
	}
}

func TestP7SideBySide(t *testing.T) {
	t.Run("walks", func(t *testing.T) {
		for k := range 8 {
			t.Run(strconv.Itoa(k), func(t *testing.T) {
				t.Parallel()
				b := make([]byte, 2000)
				rand.New(rand.NewSource(int64(k))).Read(b)
				walk(t, 300, b)
			})
		}
	})
	c, d := with(t, 100, "", ""), with(t, 100, "", "")
	j, k := opened(t, "the one", c, ""), opened(t, "the other one", d, "")
	c.Stop(1)
	wants(t, "the other one", k.Add([]byte("k")), api.OK)
	wants(t, "the one", j.Add([]byte("j")), api.ErrDead)
	counts(t, "the one", j, 0)
	counts(t, "the other one", k, 1)
	c.Crash(0)
	opened(t, "the one", c, "")
	opened(t, "the other one", d, "", "k")
}
