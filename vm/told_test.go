package vm_test

import (
	"math/big"
	"math/rand"
	"slices"
	"testing"

	"capstan/api"
	"capstan/vm"
)

const least, most = -1 << 63, 1<<63 - 1

// told is a step as the chapter tells it, by numbers without bounds and bit by bit.
func told(m vm.Machine) vm.Machine {
	m.Code, m.Stack = slices.Clone(m.Code), slices.Clone(m.Stack)
	if m.Done {
		return m
	}
	m.Err = api.OK
	if m.Gas < 1 {
		m.Done, m.Err = true, api.ErrGas
		return m
	}
	m.Gas--
	was := m
	was.Done = true
	if m.At < 0 || m.At > len(m.Code) {
		was.Err = api.ErrBad
		return was
	}
	if m.At == len(m.Code) || m.Code[m.At] == 0 {
		return was
	}
	if was.Err = toldSign(&m); was.Err != api.OK {
		return was
	}
	return m
}

// belongs, takes and puts tell of all signs, by their numbers.
var (
	belongs = [256]int{1: 8, 13: 1}
	takes   = [256]int{2: 2, 2, 2, 2, 2, 2, 1, 2, 1, 0, 0, 1, 1, 1}
	puts    = [256]int{1: 1, 1, 1, 1, 1, 1, 1, 2, 2, 0, 1, 1, 0, 1, 1}
)

// toldSign does the sign at At.
func toldSign(m *vm.Machine) api.Errno {
	s, rest := m.Code[m.At], m.Code[m.At+1:]
	if len(rest) < belongs[s] {
		return api.ErrCut
	}
	k := len(m.Stack) - takes[s]
	if k < 0 || k+puts[s] > 16 {
		return api.ErrStack
	}
	l := append(slices.Clone(m.Stack[k:]), 0, 0)
	m.At += 1 + belongs[s]
	var put []int
	e := api.OK
	switch s {
	case 1:
		n := new(big.Int).SetBytes(rest[:8])
		if rest[0] >= 128 {
			n.Sub(n, new(big.Int).Lsh(big.NewInt(1), 64))
		}
		put = []int{int(n.Int64())}
	case 2, 3, 4:
		put, e = toldSum(s, l[0], l[1])
	case 5, 6:
		put, e = toldShift(s, l[0], l[1])
	case 7:
		put = []int{int(new(big.Int).And(big.NewInt(int64(l[0])), big.NewInt(int64(l[1]))).Int64())}
	case 8:
		put = []int{l[0], l[0]}
	case 9:
		put = []int{l[1], l[0]}
	case 10:
	case 11:
		put = []int{m.Arg}
	case 12:
		put = []int{m.Data}
	case 13:
		if l[0] == 0 {
			if m.At = int(rest[0]); m.At > len(m.Code) {
				return api.ErrBad
			}
		}
	case 14:
		put = []int{(l[0]&(1<<32-1) ^ 1<<31) - 1<<31}
	case 15:
		put = []int{(l[0]%256 + 256) % 256}
	default:
		return api.ErrBad
	}
	m.Stack = append(m.Stack[:k], put...)
	return e
}

func toldSum(s byte, a, b int) ([]int, api.Errno) {
	x, y := big.NewInt(int64(a)), big.NewInt(int64(b))
	switch s {
	case 2:
		x.Add(x, y)
	case 3:
		x.Sub(x, y)
	case 4:
		x.Mul(x, y)
	}
	if !x.IsInt64() {
		return nil, api.ErrOver
	}
	return []int{int(x.Int64())}, api.OK
}

func toldShift(s byte, a, b int) ([]int, api.Errno) {
	if b < 0 {
		return nil, api.ErrArg
	}
	for range min(b, 64) {
		if s == 5 {
			a += a
		} else {
			a = (a - (a%2+2)%2) / 2
		}
	}
	return []int{a}, api.OK
}

// same tells whether two machines are, field by field.
func same(a, b vm.Machine) bool {
	return slices.Equal(a.Code, b.Code) && slices.Equal(a.Stack, b.Stack) && a.Arg == b.Arg && a.Data == b.Data && a.At == b.At && a.Gas == b.Gas && a.Done == b.Done && a.Err == b.Err
}

// asTold wants a machine's step to be the one that is told.
func asTold(t *testing.T, m vm.Machine) vm.Machine {
	t.Helper()
	got, want := vm.Step(m), told(m)
	if !same(got, want) {
		t.Errorf("P601: %+v: %+v, not %+v", m, got, want)
	}
	return got
}

// numbers stand around what a sign may look at.
func numbers() []int {
	l := []int{least, most, 1<<62 + 1<<31, -1<<62 - 3, 3037000499, 3037000500, -3037000500, 6700417, 1000003}
	for _, k := range []int{0, 1, 3, 5, 7, 8, 15, 16, 31, 32, 33, 61, 62} {
		for d := -1; d <= 1; d++ {
			l = append(l, 1<<k+d, -1<<k+d)
		}
	}
	for b := 60; b < 67; b++ {
		l = append(l, b)
	}
	return l
}

// some is any code, mostly of signs.
func some(r *rand.Rand, n int) []byte {
	l := numbers()
	var b []byte
	for len(b) < n {
		switch k := r.Intn(24); {
		case k < 5:
			b = append(b, push(l[r.Intn(len(l))])...)
		case k < 7:
			b = append(b, vm.Jz, byte(r.Intn(n+2)))
		case k < 8:
			b = append(b, byte(r.Intn(256)))
		default:
			b = append(b, byte(r.Intn(16)))
		}
	}
	return b[:n]
}

// anyone is a machine, one that New's never come to among them.
func anyone(r *rand.Rand) vm.Machine {
	l := numbers()
	pick := func() int { return l[r.Intn(len(l))] }
	m := vm.Machine{Code: some(r, r.Intn(40)), Arg: pick(), Data: pick(), Gas: r.Intn(9), Done: r.Intn(20) == 0}
	m.At = r.Intn(len(m.Code) + 1)
	for range r.Intn(20) {
		m.Stack = append(m.Stack, pick())
	}
	switch r.Intn(20) {
	case 0:
		m.At = pick()
	case 1:
		m.Gas = pick()
	}
	if m.Done {
		m.Err = api.Errno(pick())
	}
	return m
}

func TestP601StepOfAnyMachine(t *testing.T) {
	r := rand.New(rand.NewSource(6))
	for range 200000 {
		if asTold(t, anyone(r)); t.Failed() {
			return
		}
	}
}

// TestP601EverySignOfEachPair has all signs, of all that two numbers may be.
func TestP601EverySignOfEachPair(t *testing.T) {
	for s := range 256 {
		for _, a := range numbers() {
			for _, b := range numbers() {
				asTold(t, vm.Machine{Code: []byte{byte(s), 2, 0}, Arg: 5, Data: 7, Gas: 3, Stack: []int{a, b}})
			}
		}
		if t.Failed() {
			return
		}
	}
}

// TestP601EverySignOfEachHeight has all signs, on all that may be on the stack, with as many bytes behind them as may be.
func TestP601EverySignOfEachHeight(t *testing.T) {
	for s := range 256 {
		for n := range 21 {
			for k := range 10 {
				asTold(t, vm.Machine{Code: append([]byte{byte(s)}, make([]byte, k)...), Gas: 1, Stack: make([]int, n)})
				asTold(t, vm.Machine{Code: append([]byte{4, byte(s)}, make([]byte, k)...), At: 1, Gas: 1, Stack: slices.Repeat([]int{-2}, n)})
			}
		}
	}
}

// runTold is Run as the chapter tells it.
func runTold(code []byte, arg, data, gas int) (int, int, api.Errno) {
	if len(code) > 64 || gas < 0 || gas > 200 {
		return 0, 0, api.ErrArg
	}
	m := vm.Machine{Code: code, Arg: arg, Data: data, Gas: gas}
	for !m.Done {
		m = told(m)
	}
	if n := len(m.Stack); n > 0 && m.Err == api.OK {
		return m.Stack[n-1], gas - m.Gas, m.Err
	}
	return 0, gas - m.Gas, m.Err
}

// checkRun wants a Run, and all its steps, to be as they are told, and to end.
func checkRun(t *testing.T, code []byte, arg, data, gas int) {
	t.Helper()
	n, used, e := vm.Run(code, arg, data, gas)
	if wantN, wantUsed, want := runTold(code, arg, data, gas); n != wantN || used != wantUsed || e != want {
		t.Errorf("P601: Run(%x, %d, %d, %d): %d, %d, %v, not %d, %d, %v", code, arg, data, gas, n, used, e, wantN, wantUsed, want)
	}
	m, steps := vm.New(code, arg, data, gas), 0
	for gas <= 1000 && steps <= max(gas, 0) && !m.Done {
		m = asTold(t, m)
		steps++
	}
	if gas <= 1000 && !m.Done || used > max(gas, 0) {
		t.Errorf("P602: %x: not over within %d and one steps; %d used", code, gas, used)
	}
	if e != api.ErrArg && (m.Err != e || gas-m.Gas != used) {
		t.Errorf("P601: %x: Run says %v, %d used; its steps %v, %d", code, e, used, m.Err, gas-m.Gas)
	}
}

func TestP601RunOfAnyCode(t *testing.T) {
	r := rand.New(rand.NewSource(7))
	l := numbers()
	for range 30000 {
		checkRun(t, some(r, r.Intn(66)), l[r.Intn(len(l))], l[r.Intn(len(l))], r.Intn(204)-1)
		if t.Failed() {
			return
		}
	}
}

func FuzzP601(f *testing.F) {
	f.Add([]byte{11, 12, 2}, 3, 4, 9)
	f.Add([]byte{11, 10, 12, 13, 0}, 3, 0, 200)
	f.Add(append(push(least), 8, 4, 14, 15, 5, 6), -1, most, 50)
	f.Fuzz(checkRun)
}
