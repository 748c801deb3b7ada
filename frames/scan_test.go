package frames_test

import (
	"bytes"
	"encoding/binary"
	"hash/crc32"
	"strings"
	"testing"

	"capstan/api"
	"capstan/frames"
)

// wantScan wants of b the records want, and that their frames have n bytes.
func wantScan(t *testing.T, what string, b []byte, want [][]byte, n int) {
	t.Helper()
	l, m := frames.Scan(b)
	if len(l) != len(want) || m != n {
		t.Errorf("%s: %d records of %d bytes, not %d of %d", what, len(l), m, len(want), n)
		return
	}
	for i, r := range l {
		if !bytes.Equal(r, want[i]) {
			t.Errorf("%s: record %d: %.40x", what, i, r)
		}
	}
}

// rows are some records: short ones, an empty one, one that looks like a frame, a long one.
func rows() [][]byte {
	return [][]byte{[]byte("a"), nil, []byte("hello"), framed([]byte("inner")), some(3000, 1), make([]byte, 8), {0}}
}

func TestP302Scan(t *testing.T) {
	wantScan(t, "no list", nil, nil, 0)
	wantScan(t, "an empty list", []byte{}, nil, 0)
	log := laid(rows()...)
	wantScan(t, "whole frames", log, rows(), len(log))
	for n := range 40 { // empty records: a frame of noughts is one
		wantScan(t, "noughts", make([]byte, n), make([][]byte, n/8), n/8*8)
	}
	wantScan(t, "none in front", append([]byte{1}, log...), nil, 0)
	twice := append(bytes.Clone(log), log...)
	wantScan(t, "twice", twice, append(rows(), rows()...), len(twice))
}

func TestP302ScanByHand(t *testing.T) {
	const a = "\x01\x00\x00\x00\x43\xbe\xb7\xe8a"
	for in, want := range map[string]int{
		a: 1, a + a: 2, a + a[:8]: 1, a + a[:8] + "b": 1, a + a[:8] + "b" + a: 1, // none is told behind one that is none
		"\x01\x00\x00\x00\xe8\xb7\xbe\x43a": 0, "\x00\x00\x00\x01\x43\xbe\xb7\xe8a": 0, // the highest byte first
		"\x43\xbe\xb7\xe8\x01\x00\x00\x00a": 0, // the Crc ahead of the length
		"\x02\x00\x00\x00\x43\xbe\xb7\xe8a": 0, "\x02\x00\x00\x00\x43\xbe\xb7\xe8aa": 0, "\x00\x00\x00\x00\x43\xbe\xb7\xe8a": 0,
		"\x00\x00\x00\x00\x00\x00\x00\x00" + a: 2, "\x00\x00\x00\x00\x00\x00\x00\x01" + a: 0,
	} {
		l, n := frames.Scan([]byte(in))
		if len(l) != want || n > len(in) || want == 0 && n != 0 {
			t.Errorf("%x: %d records of %d bytes, not %d", in, len(l), n, want)
		}
	}
}

func TestP302ScanOfOneBitTurned(t *testing.T) {
	l := [][]byte{[]byte("one"), nil, []byte("three"), {0, 0, 0, 0}, []byte("end")}
	log := laid(l...)
	k, begin := 0, 0 // which frame a bit is in, and where that begins
	for at := range log {
		if at == begin+8+len(l[k]) {
			k, begin = k+1, at
		}
		for bit := range 8 {
			bad := bytes.Clone(log)
			bad[at] ^= 1 << bit
			wantScan(t, "a bit turned", bad, l[:k], begin)
		}
	}
}

func TestP302ScanOfLongOnes(t *testing.T) {
	big := some(biggest, 2)
	log := append(framed([]byte("x")), framed(big)...)
	wantScan(t, "the longest", log, [][]byte{[]byte("x"), big}, len(log))
	wantScan(t, "the longest, twice", append(bytes.Clone(log), log...), [][]byte{[]byte("x"), big, []byte("x"), big}, 2*len(log))
	long := framed(append(big, 1)) // its Crc is right
	wantScan(t, "one longer", append(framed([]byte("x")), long...), [][]byte{[]byte("x")}, 9)
	for _, n := range []uint32{biggest + 1, 1 << 24, 1<<31 - 1, 1 << 31, 1<<32 - 8, 1<<32 - 1} {
		head := binary.LittleEndian.AppendUint32(nil, n)
		wantScan(t, "a long head", append(head, make([]byte, 100)...), nil, 0)
	}
}

func TestP302One(t *testing.T) {
	for _, r := range rows() {
		if b, e := frames.One(framed(r)); e != api.OK || !bytes.Equal(b, r) {
			t.Errorf("%.40x: %.40x, %v", r, b, e)
		}
	}
	big := some(biggest, 4)
	if b, e := frames.One(framed(big)); e != api.OK || !bytes.Equal(b, big) {
		t.Errorf("the longest: %d bytes, %v", len(b), e)
	}
}

func TestP302OneRefuses(t *testing.T) {
	const a = "\x01\x00\x00\x00\x43\xbe\xb7\xe8a"
	head := func(n uint32) string {
		return string(binary.LittleEndian.AppendUint32(nil, n)) + "\x00\x00\x00\x00"
	}
	body := strings.Repeat("\x00", biggest)
	for in, want := range map[string]api.Errno{
		"": api.ErrCut, "a": api.ErrCut, a[:7]: api.ErrCut, "\xff\xff\xff\xff\xff\xff\xff": api.ErrCut,
		a[:8]: api.ErrCut, head(2) + "a": api.ErrCut, head(biggest): api.ErrCut, head(biggest) + body[1:]: api.ErrCut,
		head(biggest + 1): api.ErrLong, head(biggest+1) + body + "a": api.ErrLong, head(biggest+1) + body + "ab": api.ErrLong,
		head(1 << 31): api.ErrLong, head(1<<32 - 1): api.ErrLong, head(1<<32-8) + a: api.ErrLong, head(1<<32-7) + "a": api.ErrLong, head(1 << 24): api.ErrLong,
		a + "a": api.ErrMore, a + a: api.ErrMore, head(0) + "a": api.ErrMore, head(1) + "ab": api.ErrMore, head(biggest) + body + "a": api.ErrMore,
		head(1) + "a": api.ErrBad, a[:8] + "b": api.ErrBad, head(0)[:7] + "\x01": api.ErrBad, head(biggest) + body: api.ErrBad,
		"\x01\x00\x00\x00\xe8\xb7\xbe\x43a": api.ErrBad, "\x01\x00\x00\x00\xbc\x41\x48\x17a": api.ErrBad,
		a: api.OK, head(0): api.OK,
	} {
		b, e := frames.One([]byte(in))
		if e != want || want != api.OK && len(b) != 0 {
			t.Errorf("%.20x of %d bytes: %d bytes, %v, not %v", in, len(in), len(b), e, want)
		}
	}
	if b, e := frames.One(nil); e != api.ErrCut || len(b) != 0 {
		t.Errorf("no list: %x, %v", b, e)
	}
}

func TestP2ReadIsNewMemory(t *testing.T) {
	all := append(laid(rows()...), some(50, 1)...)
	was := bytes.Clone(all)
	log := all[:len(all)-50]
	l, n := frames.Scan(log)
	m, _ := frames.Scan(log[:len(log):len(log)])
	one, _ := frames.One(log[:9])
	for i := range l { // each answered list is spoilt in its turn: the later ones stay
		wantScan(t, "behind another's change", log, m, n)
		if !bytes.Equal(l[i], rows()[i]) {
			t.Errorf("record %d shares memory with another one", i)
		}
		for k := range l[i] {
			l[i][k] ^= 255
		}
		spare(l[i], 7)
	}
	one[0] = 'z'
	spare(one, 7)
	if !bytes.Equal(all, was) {
		t.Error("what was handed in, or its spare room, is not as it was")
	}
	clear(all)
	for i, r := range m {
		if !bytes.Equal(r, rows()[i]) {
			t.Errorf("record %d: what was handed in is kept", i)
		}
	}
}

// told is what Scan ought to tell, by the library.
func told(b []byte) (l [][]byte, n int) {
	for len(b)-n >= 8 {
		size, sum := int64(binary.LittleEndian.Uint32(b[n:])), binary.LittleEndian.Uint32(b[n+4:])
		if size > biggest || size > int64(len(b)-n-8) || crc32.ChecksumIEEE(b[n+8:n+8+int(size)]) != sum {
			break
		}
		l, n = append(l, b[n+8:n+8+int(size)]), n+8+int(size)
	}
	return l, n
}

func FuzzP302(f *testing.F) {
	f.Add([]byte(nil))
	f.Add(laid(rows()...))
	f.Add(append(laid(nil, []byte("x")), 1, 0, 0))
	f.Add([]byte("\x01\x00\x40\x00\x00\x00\x00\x00"))
	f.Fuzz(func(t *testing.T, b []byte) {
		want, n := told(b)
		wantScan(t, "any bytes", b, want, n)
		one, e := frames.One(b)
		if (e == api.OK) != (len(want) == 1 && n == len(b)) || e != api.OK && len(one) != 0 {
			t.Errorf("%x: %x, %v", b, one, e)
		}
		if e == api.OK && !bytes.Equal(one, want[0]) {
			t.Errorf("%x: %x", b, one)
		}
	})
}
