package code_test

import (
	"bytes"
	"strings"
	"testing"

	"capstan/api"
	"capstan/code"
)

// parts are a Reader's calls, each telling whether it answered its zero value.
func parts() map[string]func(r *code.Reader) bool {
	return map[string]func(r *code.Reader) bool{
		"Int":  func(r *code.Reader) bool { return r.Int() == 0 },
		"Text": func(r *code.Reader) bool { return len(r.Text()) == 0 },
		"Hash": func(r *code.Reader) bool { return r.Hash() == api.Hash{} },
	}
}

// wantZeros wants zero values of all that is asked from now on, and the error e to stay.
func wantZeros(t *testing.T, r *code.Reader, e api.Errno) {
	t.Helper()
	for range 2 {
		for name, zero := range parts() {
			if !zero(r) {
				t.Errorf("%s answers something behind an error", name)
			}
		}
		if got := r.End(); got != e {
			t.Errorf("End: %v, not %v", got, e)
		}
	}
}

func TestP102Int(t *testing.T) {
	x80, xff := strings.Repeat("\x80", 9), strings.Repeat("\xff", 9)
	for in, want := range map[string]api.Errno{
		"": api.ErrCut, "\x80": api.ErrCut, "\xff\xff": api.ErrCut, x80: api.ErrCut, xff: api.ErrCut,
		"\x80\x00": api.ErrBad, "\xff\x00": api.ErrBad, "\x80\x80\x00": api.ErrBad, x80[1:] + "\x00": api.ErrBad, x80 + "\x00": api.ErrBad,
		x80 + "\x02": api.ErrBad, xff + "\x02": api.ErrBad, xff + "\x7f": api.ErrBad,
		x80 + "\x80": api.ErrBad, x80 + "\x81": api.ErrBad, xff + "\xff": api.ErrBad, xff + xff: api.ErrBad,
		"\x80\x00\x01": api.ErrBad,
		"\x00":         api.OK, "\x80\x01": api.OK, "\x80\x80\x01": api.OK, x80 + "\x01": api.OK, xff + "\x01": api.OK, xff[1:] + "\x7f": api.OK,
	} {
		r := code.New([]byte(in))
		n := r.Int()
		if got := r.End(); got != want {
			t.Errorf("Int of %x: %v, not %v", in, got, want)
		}
		if want != api.OK {
			if n != 0 {
				t.Errorf("Int of %x: %d beside an error", in, n)
			}
			wantZeros(t, r, want)
		}
	}
}

func TestP102Text(t *testing.T) {
	long := string(bytes.Repeat([]byte{3}, 65536))
	size := func(n int) string { return string(code.Int(nil, n)) }
	for in, want := range map[string]api.Errno{
		"": api.ErrCut, "\x80": api.ErrCut, "\x02": api.ErrCut, "\x04a": api.ErrCut, size(65535) + long[2:]: api.ErrCut,
		"\x80\x00": api.ErrBad, "\x82\x00a": api.ErrBad, strings.Repeat("\xff", 9) + "\x02": api.ErrBad,
		size(-1): api.ErrMany, size(-1) + "a": api.ErrMany, size(-1 << 63): api.ErrMany,
		size(65536): api.ErrMany, size(65536) + long: api.ErrMany, size(1<<63 - 1): api.ErrMany, size(1 << 32): api.ErrMany,
		size(0): api.OK, size(1) + "a": api.OK, size(65535) + long[1:]: api.OK,
	} {
		r := code.New([]byte(in))
		s := r.Text()
		if got := r.End(); got != want {
			t.Errorf("Text of %.20x: %v, not %v", in, got, want)
		}
		if want == api.OK && !strings.HasSuffix(in, string(s)) {
			t.Errorf("Text of %.20x: %.20x", in, s)
		}
		if want != api.OK {
			if len(s) != 0 {
				t.Errorf("Text of %.20x: %d bytes beside an error", in, len(s))
			}
			wantZeros(t, r, want)
		}
	}
}

func TestP102Hash(t *testing.T) {
	h := sumOf(5, 11)
	for n := range 32 {
		r := code.New(h[:n])
		if got := r.Hash(); got != (api.Hash{}) {
			t.Errorf("Hash of %d bytes: %x", n, got)
		}
		wantZeros(t, r, api.ErrCut)
	}
	r := code.New(h[:])
	if got := r.Hash(); got != h || r.End() != api.OK {
		t.Errorf("Hash: %x, %v", got, r.End())
	}
}

func TestP102OneBehindTheOther(t *testing.T) {
	h := sumOf(1, 2)
	r := code.New([]byte("\x01\x04hi\x80\x01" + string(h[:]) + "\x00\x02"))
	if n, s, m, x := r.Int(), r.Text(), r.Int(), r.Hash(); n != -1 || string(s) != "hi" || m != 64 || x != h {
		t.Errorf("%d, %q, %d, %x", n, s, m, x)
	}
	if s, n := r.Text(), r.Int(); len(s) != 0 || n != 1 || r.End() != api.OK {
		t.Errorf("%q, %d, %v", s, n, r.End())
	}
	if r.Int() != 0 {
		t.Error("a number behind the end")
	}
	wantZeros(t, r, api.ErrCut)
}

func TestP102TheFirstErrorStays(t *testing.T) {
	for in, want := range map[string]api.Errno{"\x80\x00": api.ErrBad, "\x01": api.ErrMany, "\x04a": api.ErrCut} {
		r := code.New([]byte(in + strings.Repeat("\x02", 40)))
		if want == api.ErrCut {
			r = code.New([]byte(in))
		}
		r.Text()
		r.Fail(api.ErrKind)
		r.Fail(api.OK)
		wantZeros(t, r, want)
	}
}

func TestP102Fail(t *testing.T) {
	in := []byte("\x02\x04hi" + strings.Repeat("\x07", 40))
	for _, e := range []api.Errno{api.ErrArg, api.ErrMore, api.ErrEarly, 99, -1, -1 << 63} {
		r := code.New(in)
		r.Fail(api.OK)
		if n := r.Int(); n != 1 {
			t.Errorf("Int behind Fail(OK): %d", n)
		}
		r.Fail(e)
		r.Fail(api.ErrNone)
		r.Fail(api.OK)
		wantZeros(t, r, e)
	}
}

func TestP102End(t *testing.T) {
	for _, b := range [][]byte{nil, {}} {
		if e := code.New(b).End(); e != api.OK {
			t.Errorf("End of no bytes: %v", e)
		}
	}
	r := code.New([]byte("\x02\x04hi"))
	for _, want := range []api.Errno{api.ErrMore, api.ErrMore} {
		if e := r.End(); e != want {
			t.Errorf("End: %v, not %v", e, want)
		}
	}
	if n, e := r.Int(), r.End(); n != 1 || e != api.ErrMore {
		t.Errorf("behind ErrMore: %d, %v: it is no error that stays", n, e)
	}
	if s, e := r.Text(), r.End(); string(s) != "hi" || e != api.OK {
		t.Errorf("behind ErrMore: %q, %v", s, e)
	}
	r.Fail(api.ErrWord)
	wantZeros(t, r, api.ErrWord)
}

func TestP2ReaderKeepsToItself(t *testing.T) {
	in := bytes.Repeat([]byte("\x02a"), 10)
	was := bytes.Clone(in)
	r := code.New(in[:8])
	fill(in, 9)
	first := r.Text()
	fill(first, 9)
	second := r.Text()
	if string(second) != "a" || string(r.Text()) != "a" || string(r.Text()) != "a" || r.End() != api.OK {
		t.Errorf("a Reader shares memory with its bytes, or its answers: %q, %v", second, r.End())
	}
	r = code.New(was[:8])
	fill(r.Text(), 9)
	if !bytes.Equal(was, bytes.Repeat([]byte("\x02a"), 10)) {
		t.Error("a Reader changes, or hands out, what it was handed")
	}
}

func TestP7ReadersSideBySide(t *testing.T) {
	in := []byte("\x02\x04\x06")
	a, b := code.New(in), code.New(in)
	a.Int()
	a.Fail(api.ErrBad)
	if n, m, k := b.Int(), b.Int(), b.Int(); n != 1 || m != 2 || k != 3 || b.End() != api.OK {
		t.Errorf("%d, %d, %d, %v", n, m, k, b.End())
	}
	wantZeros(t, a, api.ErrBad)
}
