package frames_test

import (
	"bytes"
	"testing"

	"capstan/api"
	"capstan/frames"
)

// checkFronts wants of frames, with any front of one more behind them, just their records.
func checkFronts(t *testing.T, l [][]byte, last []byte) {
	t.Helper()
	var log []byte
	for _, r := range l {
		f, e := frames.Frame(r)
		if e != api.OK {
			t.Fatalf("%d bytes: %v", len(r), e)
		}
		log = append(log, f...)
	}
	f, e := frames.Frame(last)
	if e != api.OK {
		t.Fatalf("%d bytes: %v", len(last), e)
	}
	for n := range f {
		wantScan(t, "a front behind", append(bytes.Clone(log), f[:n]...), l, len(log))
	}
	wantScan(t, "one more", append(bytes.Clone(log), f...), append(l[:len(l):len(l)], last), len(log)+len(f))
}

func TestP303FramesAndAFront(t *testing.T) {
	l := rows()
	for n := range len(l) + 1 {
		for _, last := range [][]byte{nil, {0}, []byte("last"), make([]byte, 20), some(300, n), framed([]byte("inner"))} {
			checkFronts(t, l[:n], last)
		}
	}
}

func TestP303LongOnes(t *testing.T) {
	big := some(biggest, 6)
	f, _ := frames.Frame(big)
	log := append(bytes.Clone(f), f...)
	for _, n := range []int{0, 1, 7, 8, 9, 1000, biggest, biggest + 7} {
		wantScan(t, "a front of a long one", log[:len(f)+n], [][]byte{big}, len(f))
	}
	wantScan(t, "both", log, [][]byte{big, big}, len(log))
}

func TestP303ManyRecords(t *testing.T) {
	var l [][]byte
	var log []byte
	for i := range 20000 {
		l = append(l, some(i%50, i))
		log = append(log, framed(l[i])...)
	}
	wantScan(t, "many", log, l, len(log))
	wantScan(t, "all but the last byte", log[:len(log)-1], l[:len(l)-1], len(log)-len(framed(l[len(l)-1])))
}

func TestP303OneIsWhatFrameMakes(t *testing.T) {
	for n := range 600 {
		f, _ := frames.Frame(some(n, n))
		if b, e := frames.One(f); e != api.OK || !bytes.Equal(b, some(n, n)) {
			t.Fatalf("%d bytes: %d bytes, %v", n, len(b), e)
		}
		for k := range f {
			if b, e := frames.One(f[:k]); e != api.ErrCut || len(b) != 0 {
				t.Fatalf("%d of %d bytes: %d bytes, %v", k, len(f), len(b), e)
			}
		}
	}
}

func TestP3TheSameAgain(t *testing.T) {
	log := append(laid(rows()...), 1, 2, 3)
	for range 3 {
		wantScan(t, "again", log, rows(), len(log)-3)
		if _, e := frames.One(log); e != api.ErrMore {
			t.Errorf("One: %v", e)
		}
		if frames.Crc(log) != frames.Crc(bytes.Clone(log)) {
			t.Error("Crc: another one")
		}
	}
}
