package frames_test

import (
	"bytes"
	"encoding/binary"
	"hash/crc32"
	"testing"

	"capstan/api"
	"capstan/frames"
)

// biggest is how many bytes a record may have.
const biggest = 1 << 22

// framed is a frame as the chapter tells it, by the library.
func framed(b []byte) []byte {
	f := binary.LittleEndian.AppendUint32(nil, uint32(len(b)))
	f = binary.LittleEndian.AppendUint32(f, crc32.ChecksumIEEE(b))
	return append(f, b...)
}

// laid is the frames of records, one behind the other.
func laid(l ...[]byte) (log []byte) {
	for _, r := range l {
		log = append(log, framed(r)...)
	}
	return log
}

// spare fills what lies behind a list in its own memory.
func spare(b []byte, c byte) {
	for i := range b[len(b):cap(b)] {
		b[:cap(b)][len(b)+i] = c
	}
}

func TestP301FrameByHand(t *testing.T) {
	for in, want := range map[string]string{
		"":          "\x00\x00\x00\x00\x00\x00\x00\x00",
		"a":         "\x01\x00\x00\x00\x43\xbe\xb7\xe8a",
		"123456789": "\x09\x00\x00\x00\x26\x39\xf4\xcb123456789",
	} {
		if f, e := frames.Frame([]byte(in)); e != api.OK || string(f) != want {
			t.Errorf("%q: %q, %v", in, f, e)
		}
	}
	if f, e := frames.Frame(nil); e != api.OK || string(f) != "\x00\x00\x00\x00\x00\x00\x00\x00" {
		t.Errorf("P2: no list is an empty one: %q, %v", f, e)
	}
}

func TestP301FrameOfEachLength(t *testing.T) {
	for _, n := range []int{1, 7, 8, 9, 127, 128, 255, 256, 257, 65535, 65536, 1<<21 + 5, biggest - 1, biggest} {
		for _, b := range [][]byte{some(n, n), make([]byte, n)} {
			if f, e := frames.Frame(b); e != api.OK || !bytes.Equal(f, framed(b)) {
				t.Errorf("%d bytes: %d bytes, %v", n, len(f), e)
			}
		}
	}
}

func TestP301FrameTooLong(t *testing.T) {
	for _, n := range []int{biggest + 1, biggest + 2, 2 * biggest, 1 << 24, 1<<24 + 3} {
		if f, e := frames.Frame(make([]byte, n)); e != api.ErrLong || len(f) != 0 {
			t.Errorf("%d bytes: %d bytes, %v", n, len(f), e)
		}
	}
}

func TestP2FrameIsNewMemory(t *testing.T) {
	all := some(64, 9)
	was := bytes.Clone(all)
	b := all[:20]
	f, _ := frames.Frame(b)
	g, _ := frames.Frame(b)
	if !bytes.Equal(all, was) {
		t.Error("what was handed in, or its spare room, is not as it was")
	}
	clear(f)
	spare(f, 7)
	if !bytes.Equal(all, was) || !bytes.Equal(g, framed(was[:20])) {
		t.Error("an answer shares memory with what was handed in, or with another answer")
	}
	clear(b)
	if !bytes.Equal(g, framed(was[:20])) {
		t.Error("what was handed in is kept")
	}
}
