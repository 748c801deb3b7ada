package vm_test

import (
	"slices"
	"testing"

	"capstan/api"
	"capstan/vm"
)

// steps wants a machine's step.
func steps(t *testing.T, what string, m, want vm.Machine) {
	t.Helper()
	if got := vm.Step(m); !same(got, want) {
		t.Errorf("%s: %+v, not %+v", what, got, want)
	}
}

// ended is a machine that is Done, with an Err and so much Gas.
func ended(m vm.Machine, e api.Errno, gas int) vm.Machine {
	m.Done, m.Err, m.Gas = true, e, gas
	return m
}

func TestP601New(t *testing.T) {
	for _, code := range [][]byte{nil, {}, {1, 2, 99}, make([]byte, 65), make([]byte, 1000)} {
		for _, n := range numbers() {
			m := vm.New(code, n, n+1, n+2)
			if !same(m, vm.Machine{Code: code, Arg: n, Data: n + 1, Gas: n + 2}) {
				t.Errorf("New(%x, %d ..): %+v", code, n, m)
			}
		}
	}
}

func TestP601StepOfOneThatIsDone(t *testing.T) {
	for _, m := range []vm.Machine{
		{Done: true},
		{Done: true, Gas: -5, Err: api.ErrGas},
		{Done: true, Gas: 5, Err: api.ErrGone, At: -9, Arg: 1, Data: 2, Code: []byte{vm.Arg}, Stack: []int{1, 2}},
		{Done: true, Gas: 5, Err: -7, At: most, Code: []byte{99}, Stack: make([]int, 30)},
	} {
		steps(t, "done", m, m)
	}
}

func TestP601StepWithoutGas(t *testing.T) {
	for _, gas := range []int{0, -1, least} {
		for _, m := range []vm.Machine{{}, {At: 9}, {At: -1}, {Code: []byte{vm.Stop}}, {Code: []byte{99}}, {Code: []byte{vm.Push}, Stack: make([]int, 17)}} {
			m.Gas = gas
			steps(t, "no gas", m, ended(m, api.ErrGas, gas))
		}
	}
}

func TestP601StepBesideTheCode(t *testing.T) {
	for _, at := range []int{-1, least, 3, 4, 1 << 32, most} {
		m := vm.Machine{Code: []byte{vm.Arg, vm.Arg}, At: at, Gas: 4, Stack: []int{6}}
		steps(t, "beside the code", m, ended(m, api.ErrBad, 3))
	}
	m := vm.Machine{Code: []byte{vm.Arg, vm.Arg}, At: 2, Gas: 1, Stack: make([]int, 40)}
	steps(t, "behind the code", m, ended(m, api.OK, 0))
	m.Code[1], m.At = vm.Stop, 1
	steps(t, "Stop", m, ended(m, api.OK, 0))
}

// TestP601StepLeavesAllBesideAnError has one of each error.
func TestP601StepLeavesAllBesideAnError(t *testing.T) {
	for _, x := range []struct {
		code  []byte
		stack []int
		e     api.Errno
	}{
		{[]byte{vm.Push, 1, 2, 3}, []int{4}, api.ErrCut},
		{[]byte{vm.Jz}, []int{0}, api.ErrCut},
		{[]byte{vm.Add}, []int{4}, api.ErrStack},
		{[]byte{vm.Dup}, slices.Repeat([]int{4}, 16), api.ErrStack},
		{push(7), slices.Repeat([]int{4}, 16), api.ErrStack},
		{[]byte{vm.Mul}, []int{1, least, -1}, api.ErrOver},
		{[]byte{vm.Sub}, []int{1, 0, least}, api.ErrOver},
		{[]byte{vm.Shl}, []int{1, 2, -1}, api.ErrArg},
		{[]byte{vm.Jz, 99}, []int{5, 0}, api.ErrBad},
		{[]byte{77}, []int{5, 0}, api.ErrBad},
	} {
		m := vm.Machine{Code: append([]byte{vm.Arg, vm.Data}, x.code...), At: 2, Arg: 8, Data: 9, Gas: 3, Stack: x.stack}
		steps(t, "an error", m, ended(m, x.e, 2))
		steps(t, "an error, and on", vm.Step(m), ended(m, x.e, 2))
	}
}

// TestP601WhichErrorIsFirst has what lacks ahead of the stack, and the stack ahead of the rest.
func TestP601WhichErrorIsFirst(t *testing.T) {
	for _, x := range []struct {
		code  []byte
		stack []int
		e     api.Errno
	}{
		{[]byte{vm.Push, 1}, make([]int, 16), api.ErrCut},
		{[]byte{vm.Jz}, nil, api.ErrCut},
		{[]byte{vm.Jz}, make([]int, 30), api.ErrCut},
		{[]byte{vm.Jz, 99}, nil, api.ErrStack},
		{[]byte{vm.Jz, 99}, make([]int, 18), api.ErrStack},
		{[]byte{vm.Add}, slices.Repeat([]int{most}, 18), api.ErrStack},
		{[]byte{vm.Shr}, slices.Repeat([]int{-1}, 18), api.ErrStack},
		{[]byte{vm.Shr}, slices.Repeat([]int{-1}, 17), api.ErrArg},
		{[]byte{99}, make([]int, 17), api.ErrStack},
		{[]byte{99}, make([]int, 16), api.ErrBad},
	} {
		m := vm.Machine{Code: x.code, Gas: 3, Stack: x.stack}
		steps(t, "two errors", m, ended(m, x.e, 2))
	}
}

// TestP601AStackOfTooMany has only signs that make it small enough go on.
func TestP601AStackOfTooMany(t *testing.T) {
	for s, fits := range map[byte]int{
		vm.Add: 17, vm.And: 17, vm.Drop: 17, vm.Swap: 16, vm.I32: 16, vm.U8: 16, vm.Dup: 15, vm.Arg: 15, vm.Data: 15,
	} {
		for n := 2; n < 40; n++ {
			m := vm.Step(vm.Machine{Code: []byte{s}, Gas: 1, Stack: make([]int, n)})
			if m.Done != (n > fits) || m.Err != api.OK && m.Err != api.ErrStack || len(m.Stack) != n && m.Done {
				t.Errorf("%d, on %d: %+v", s, n, m)
			}
		}
	}
	m := vm.Machine{Code: []byte{vm.Jz, 2}, Gas: 1, Stack: make([]int, 17)}
	steps(t, "Jz", m, vm.Machine{Code: m.Code, At: 2, Stack: make([]int, 16)})
}

func TestP601StepByStep(t *testing.T) {
	code := []byte{vm.Data, vm.Arg, vm.Swap, vm.Jz, 6, 99, vm.Dup, vm.Stop}
	m := vm.New(code, 5, 0, 10)
	for _, x := range []struct {
		at    int
		stack []int
	}{{1, []int{0}}, {2, []int{0, 5}}, {3, []int{5, 0}}, {6, []int{5}}, {7, []int{5, 5}}} {
		want := vm.Machine{Code: code, Arg: 5, At: x.at, Stack: x.stack, Gas: m.Gas - 1}
		steps(t, "a step", m, want)
		m = vm.Step(m)
	}
	steps(t, "the last", m, ended(m, api.OK, 4))
}

// TestP601OneThatIsNotDoneHasNoErr hands in one that has.
func TestP601OneThatIsNotDoneHasNoErr(t *testing.T) {
	for _, code := range [][]byte{{vm.Arg}, {vm.Stop}, {}} {
		m := vm.Step(vm.Machine{Code: code, Gas: 3, Err: api.ErrGone})
		if m.Err != api.OK || m.Done != (len(code) == 0 || code[0] == vm.Stop) {
			t.Errorf("%+v", m)
		}
	}
}
