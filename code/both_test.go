package code_test

import (
	"bytes"
	"testing"

	"capstan/api"
	"capstan/code"
)

func TestP103WrittenThenRead(t *testing.T) {
	var b []byte
	for i, n := range numbers() {
		b = code.Hash(code.Text(code.Int(b, n), bytes.Repeat([]byte{byte(i)}, i)), sumOf(byte(i), 3))
	}
	r := code.New(b)
	for i, n := range numbers() {
		if m, s, h := r.Int(), r.Text(), r.Hash(); m != n || !bytes.Equal(s, bytes.Repeat([]byte{byte(i)}, i)) || h != sumOf(byte(i), 3) {
			t.Fatalf("the %d-th: %d, %x, %x", i, m, s, h)
		}
	}
	if e := r.End(); e != api.OK {
		t.Errorf("End: %v", e)
	}
	long := bytes.Repeat([]byte{1, 2, 3, 4, 5}, 65535/5)
	if r := code.New(code.Text(nil, long)); !bytes.Equal(r.Text(), long) || r.End() != api.OK {
		t.Errorf("65535 bytes: %v", r.End())
	}
}

// checkRead wants of any bytes: what is read is written as it stood, and what may not be read is refused by some reason.
func checkRead(t *testing.T, in []byte) {
	t.Helper()
	for k, write := range []func(r *code.Reader) []byte{
		func(r *code.Reader) []byte { return code.Int(nil, r.Int()) },
		func(r *code.Reader) []byte { return code.Text(nil, r.Text()) },
		func(r *code.Reader) []byte { return code.Hash(nil, r.Hash()) },
	} {
		r := code.New(in)
		out := write(r)
		switch e := r.End(); e {
		case api.OK:
			if !bytes.Equal(out, in) {
				t.Fatalf("call %d: %x was read, %x is written", k, in, out)
			}
		case api.ErrMore:
			if len(out) >= len(in) || !bytes.Equal(out, in[:len(out)]) {
				t.Fatalf("call %d: of %x a front was read, %x is written", k, in, out)
			}
		case api.ErrCut, api.ErrBad, api.ErrMany:
		default:
			t.Fatalf("call %d: %x: %v", k, in, e)
		}
	}
}

func TestP103ReadThenWritten(t *testing.T) {
	for a := range 256 {
		checkRead(t, []byte{byte(a)})
		for b := range 256 {
			checkRead(t, []byte{byte(a), byte(b)})
			for _, c := range []byte{0, 1, 2, 127, 128, 129, 255} {
				checkRead(t, []byte{byte(a), byte(b), c})
			}
		}
	}
	for n := range 14 { // around the longest number
		for _, fill := range []byte{128, 129, 254, 255} {
			for last := range 256 {
				checkRead(t, append(bytes.Repeat([]byte{fill}, n), byte(last)))
				checkRead(t, append(bytes.Repeat([]byte{fill}, n), byte(last), 0))
			}
		}
	}
}

func FuzzP103(f *testing.F) {
	f.Add([]byte{})
	f.Add([]byte("\x80\x00"))
	f.Add([]byte("\x04hi"))
	f.Add(bytes.Repeat([]byte{255}, 33))
	f.Fuzz(checkRead)
}

func TestP3TheSameAgain(t *testing.T) {
	for _, n := range numbers() {
		b, c := code.Int([]byte("x"), n), code.Int([]byte("x"), n)
		if !bytes.Equal(b, c) {
			t.Errorf("Int of %d: %x, then %x", n, b, c)
		}
		p, q := code.New(b), code.New(b)
		for range 12 {
			if p.Int() != q.Int() || p.End() != q.End() {
				t.Errorf("%x is read in two ways", b)
			}
		}
	}
}
