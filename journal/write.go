package journal

import (
	"capstan/api"
	"capstan/frames"
)

// write frames b and hands the frame to put; wherever it ends, it counts n records only if nothing was wrong.
func (j *Journal) write(b []byte, put func(f []byte) api.Errno, n int) (e api.Errno) {
	defer func() {
		if e == api.OK {
			j.count = n
		}
	}()
	f, e := frames.Frame(b)
	if e != api.OK {
		return e
	}
	if j.disk == nil { // no Open made it
		return api.ErrDead
	}
	return put(f)
}

// behind puts a frame behind the log. It may be told to stay only when it is synced.
func (j *Journal) behind(f []byte) api.Errno {
	if e := j.disk.Append(f); e != api.OK {
		return e
	}
	return j.disk.Sync()
}

// snapshot is what the bytes of a disk's say; none are none yet.
func snapshot(b []byte) ([]byte, api.Errno) {
	if len(b) == 0 {
		return nil, api.OK
	}
	s, e := frames.One(b)
	if e != api.OK {
		return nil, api.ErrBad // it was swapped in whole: whatever is wrong, no power's going did it
	}
	return s, api.OK
}
