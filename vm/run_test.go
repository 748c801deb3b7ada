package vm_test

import (
	"bytes"
	"testing"

	"capstan/api"
	"capstan/vm"
)

func TestP601RunsBounds(t *testing.T) {
	arg := []byte{vm.Arg}
	long := bytes.Repeat([]byte{vm.Arg, vm.Drop}, 100)
	for _, x := range []struct {
		code      []byte
		gas, used int
		e         api.Errno
	}{
		{long[:64], 200, 65, api.OK}, {long[:65], 200, 0, api.ErrArg}, {long, 200, 0, api.ErrArg}, {long[:65], -1, 0, api.ErrArg},
		{arg, -1, 0, api.ErrArg}, {arg, least, 0, api.ErrArg}, {arg, 201, 0, api.ErrArg}, {arg, most, 0, api.ErrArg}, {arg, 1 << 32, 0, api.ErrArg},
		{nil, -1, 0, api.ErrArg}, {nil, 201, 0, api.ErrArg}, {nil, 0, 0, api.ErrGas}, {nil, 1, 1, api.OK}, {nil, 200, 1, api.OK},
		{arg, 0, 0, api.ErrGas}, {arg, 1, 1, api.ErrGas}, {arg, 2, 2, api.OK},
		{long[:64], 64, 64, api.ErrGas}, {long[:64], 65, 65, api.OK}, {[]byte{99}, 0, 0, api.ErrGas}, {[]byte{99}, 1, 1, api.ErrBad},
	} {
		n, used, e := vm.Run(x.code, 9, 0, x.gas)
		want := 0
		if e == api.OK && len(x.code) == 1 {
			want = 9
		}
		if n != want || used != x.used || e != x.e {
			t.Errorf("%d bytes, gas %d: %d, %d, %v, not %d, %d, %v", len(x.code), x.gas, n, used, e, want, x.used, x.e)
		}
	}
}

// TestP601RunsTop has no more than the top told, and nothing beside an error.
func TestP601RunsTop(t *testing.T) {
	runs(t, []byte{vm.Data, vm.Arg}, 1000, 3, api.OK)
	runs(t, []byte{vm.Data, vm.Arg, vm.Drop, vm.Drop}, 0, 5, api.OK)
	runs(t, []byte{vm.Data, vm.Arg, 16}, 0, 3, api.ErrBad)
	if n, used, e := vm.Run([]byte{vm.Arg, vm.Arg}, 7, 0, 2); n != 0 || used != 2 || e != api.ErrGas {
		t.Errorf("%d, %d, %v", n, used, e)
	}
}

func TestP601RunsFullStack(t *testing.T) {
	full := bytes.Repeat([]byte{vm.Arg}, 16)
	runs(t, full, 1000, 17, api.OK)
	runs(t, append(full[:16:16], vm.Swap, vm.I32, vm.U8, vm.Stop), 232, 20, api.OK)
	for _, s := range []byte{vm.Arg, vm.Data, vm.Dup} {
		runs(t, append(full[:16:16], s), 0, 17, api.ErrStack)
	}
	runs(t, append(full[:16:16], push(3)...), 0, 17, api.ErrStack)
	runs(t, append(full[:16:16], vm.Push), 0, 17, api.ErrCut)
	runs(t, append(full[:15:15], push(3)...), 3, 17, api.OK)
}

// TestP601ALoop counts Arg down to 0.
func TestP601ALoop(t *testing.T) {
	code := append([]byte{vm.Arg, vm.Dup, vm.Jz, 18}, push(1)...)
	code = append(code, vm.Sub, vm.Data, vm.Jz, 1, 99, vm.Stop)
	for n := range 30 {
		used, e := 4+6*n, api.OK
		if used > 150 {
			used, e = 150, api.ErrGas
		}
		if r, u, got := vm.Run(code, n, 0, 150); r != 0 || u != used || got != e {
			t.Errorf("%d: %d, %d, %v, not %d, %v", n, r, u, got, used, e)
		}
	}
}

// TestP602WhatNeverEnds has codes that go round and round, till the gas is gone.
func TestP602WhatNeverEnds(t *testing.T) {
	for _, code := range [][]byte{{vm.Data, vm.Jz, 0}, {vm.Arg, vm.Drop, vm.Data, vm.Jz, 0}, {vm.Data, vm.Dup, vm.Jz, 1, vm.Stop}} {
		for gas := range 201 {
			n, used, e := vm.Run(code, 3, 0, gas)
			if n != 0 || used != gas || e != api.ErrGas {
				t.Errorf("P602: %x, gas %d: %d, %d, %v", code, gas, n, used, e)
			}
			m := vm.New(code, 3, 0, gas)
			for i := range gas + 1 {
				if m.Done {
					t.Errorf("P602: %x, gas %d: over at step %d", code, gas, i)
				}
				m = vm.Step(m)
			}
			if !m.Done || m.Err != api.ErrGas || m.Gas != 0 {
				t.Errorf("P602: %x, gas %d: %+v", code, gas, m)
			}
		}
	}
}
