package vm

import (
	"capstan/api"
)

// step does a step in place, on lists that nobody else has.
func (m *Machine) step() {
	switch {
	case m.Done:
	case m.Gas < 1:
		m.end(api.ErrGas)
	default:
		m.Gas--
		m.Err = api.OK // one that is not Done has none, whatever was handed in
		m.paid()
	}
}

// end is the last that happens to a machine.
func (m *Machine) end(e api.Errno) { m.Done, m.Err = true, e }

// paid does what a step does once its Gas is taken.
func (m *Machine) paid() {
	switch n := len(m.Code); {
	case m.At < 0 || m.At > n:
		m.end(api.ErrBad)
	case m.At == n || m.Code[m.At] == Stop: // Stop is not asked how much stands on the stack
		m.end(api.OK)
	default:
		if e := m.act(); e != api.OK {
			m.end(e)
		}
	}
}

// act does the sign at At; beside an error nothing has changed.
func (m *Machine) act() api.Errno {
	sign := m.Code[m.At]
	tail, takes, puts := asks(sign)
	at, left := m.At+1+tail, len(m.Stack)-takes
	if at > len(m.Code) {
		return api.ErrCut
	}
	if left < 0 || left+puts > api.MaxStack {
		return api.ErrStack
	}
	said, took := number(m.Code[m.At+1:at]), m.Stack[left:]
	put, e := m.makes(sign, said, took)
	if e != api.OK {
		return e
	}
	if sign == Jz && took[0] == 0 {
		at = said
	}
	m.At, m.Stack = at, append(m.Stack[:left], put[:puts]...)
	return api.OK
}

// asks is what a sign asks for: how many bytes belong to it, how many numbers it takes, how many it puts.
// One that is none asks for nothing, but only Stop goes by unasked: where there are too many already, that is told first.
func asks(sign byte) (tail, takes, puts int) {
	switch sign {
	case Push: // as Arg and Data, but its number belongs to it
		tail = 8
		fallthrough
	case Arg, Data:
		return tail, 0, 1
	case Jz: // as Drop, but a place belongs to it
		tail = 1
		fallthrough
	case Drop:
		return tail, 1, 0
	case I32, U8:
		return 0, 1, 1
	case Dup:
		return 0, 1, 2
	case Swap:
		return 0, 2, 2
	case Add, Sub, Mul, Shl, Shr, And:
		return 0, 2, 1
	}
	return 0, 0, 0
}

// number is bytes as one, the highest first; only eight of them have a sign.
func number(b []byte) int {
	var u uint64
	for _, c := range b {
		u = u<<8 | uint64(c)
	}
	return int(u)
}

// makes is what a sign puts for what it took, the top last; said: the number that belongs to it.
func (m *Machine) makes(sign byte, said int, took []int) (put [2]int, e api.Errno) {
	switch sign {
	case Push:
		put[0] = said
	case Add, Sub, Mul, Shl, Shr, And:
		put[0], e = pair(sign, took[0], took[1])
	case Dup:
		put[0], put[1] = took[0], took[0]
	case Swap:
		put[0], put[1] = took[1], took[0]
	case Drop:
	case Arg:
		put[0] = m.Arg
	case Data:
		put[0] = m.Data
	case Jz:
		if took[0] == 0 && said > len(m.Code) {
			e = api.ErrBad
		}
	case I32:
		put[0] = int(int32(took[0]))
	case U8:
		put[0] = int(uint8(took[0]))
	default:
		e = api.ErrBad
	}
	return put, e
}
