package frames

import (
	"bytes"

	"capstan/api"
)

// text is bytes that may begin with a frame. Its methods headless, long, cut, more and bad tell what is wrong with it.
// One of them may be asked only where those ahead of it, in this order, found nothing; more alone may be left out.
type text []byte

// first is the first error that one of the checks has.
func first(checks ...func() api.Errno) api.Errno {
	for _, check := range checks {
		if e := check(); e != api.OK {
			return e
		}
	}
	return api.OK
}

func (t text) headless() api.Errno { return failed(len(t) < head, api.ErrCut) }

// long looks at the length as it stands, ahead of its becoming an int, which may have no more bits than it.
func (t text) long() api.Errno { return failed(number(t) > maxRecord, api.ErrLong) }

func (t text) cut() api.Errno { return failed(len(t) < t.size(), api.ErrCut) }

func (t text) more() api.Errno { return failed(len(t) > t.size(), api.ErrMore) }

func (t text) bad() api.Errno { return failed(Crc(t[head:t.size()]) != number(t[4:]), api.ErrBad) }

// failed is e, where it is so.
func failed(so bool, e api.Errno) api.Errno {
	if so {
		return e
	}
	return api.OK
}

// size is how many bytes the frame has.
func (t text) size() int { return head + int(number(t)) }

// record is a copy of the frame's: the bytes are somebody else's.
func (t text) record() []byte { return bytes.Clone(t[head:t.size()]) }
