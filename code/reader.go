package code

import (
	"capstan/api"
)

// maxText is how many bytes a Text that is read may have.
const maxText = 65535

// Reader reads what was written, and keeps the first error.
type Reader struct {
	rest []byte
	err  api.Errno
}

// New is a Reader of b as it is now.
func New(b []byte) *Reader {
	return &Reader{rest: more(b, 0)}
}

// Int reads a number.
func (r *Reader) Int() int { return guarded(r, r.number) }

// Text reads bytes.
func (r *Reader) Text() []byte { return guarded(r, r.text) }

// Hash reads a sum.
func (r *Reader) Hash() api.Hash { return guarded(r, r.sum) }

// Fail makes e its error, if it has none.
func (r *Reader) Fail(e api.Errno) {
	if r.err == api.OK {
		r.err = e
	}
}

// End tells its error; bytes that are left are one, but none that stays: they may still be read.
func (r *Reader) End() api.Errno {
	if r.err == api.OK && len(r.rest) > 0 {
		return api.ErrMore
	}
	return r.err
}

// guarded is what read answers, or a zero value, where r has an error, or read panics with one.
// Readers panic, so that none of them has to ask the ones that it calls how they fared.
func guarded[T any](r *Reader, read func() T) (x T) {
	defer func() {
		if e, ok := recover().(api.Errno); ok {
			r.Fail(e)
		}
	}()
	if r.err == api.OK {
		x = read()
	}
	return x
}

// take takes n bytes from the front; they are the Reader's own still.
func (r *Reader) take(n int) []byte {
	if n > len(r.rest) {
		panic(api.ErrCut)
	}
	b := r.rest[:n]
	r.rest = r.rest[n:]
	return b
}

func (r *Reader) number() int {
	var u uint64
	for i := 0; ; i++ {
		c := r.take(1)[0]
		if i == maxNumber-1 && c > 1 { // only one of the 64 bits is left for it
			panic(api.ErrBad)
		}
		u |= uint64(c&127) << (7 * i)
		if c >= 128 {
			continue
		}
		if c == 0 && i > 0 { // fewer bytes would have said it
			panic(api.ErrBad)
		}
		return unfold(u)
	}
}

func (r *Reader) text() []byte {
	n := r.number()
	if n < 0 || n > maxText {
		panic(api.ErrMany)
	}
	return more(r.take(n), 0)
}

func (r *Reader) sum() api.Hash {
	var h api.Hash
	copy(h[:], r.take(len(h)))
	return h
}
