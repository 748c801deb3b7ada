package vm_test

import (
	"testing"

	"capstan/api"
	"capstan/vm"
)

// push is a Push of a number.
func push(n int) []byte {
	b := []byte{vm.Push}
	for k := 56; k >= 0; k -= 8 {
		b = append(b, byte(uint64(n)>>k))
	}
	return b
}

// of is signs behind a Push of each number.
func of(l []int, signs ...byte) []byte {
	var b []byte
	for _, n := range l {
		b = append(b, push(n)...)
	}
	return append(b, signs...)
}

// runs wants a Run's answer, of Arg 1000, Data -20, and Gas enough.
func runs(t *testing.T, code []byte, result, used int, e api.Errno) {
	t.Helper()
	if n, u, got := vm.Run(code, 1000, -20, 100); n != result || u != used || got != e {
		t.Errorf("%x: %d, %d, %v, not %d, %d, %v", code, n, u, got, result, used, e)
	}
}

// makes wants what signs make of numbers: the top, of a machine that comes to its end.
func makes(t *testing.T, result int, l []int, signs ...byte) {
	t.Helper()
	runs(t, of(l, signs...), result, len(l)+len(signs)+1, api.OK)
}

// refuses wants the last of the signs to be refused.
func refuses(t *testing.T, e api.Errno, l []int, signs ...byte) {
	t.Helper()
	runs(t, of(l, signs...), 0, len(l)+len(signs), e)
}

func TestP601TheNumbersOfSigns(t *testing.T) {
	for i, s := range []byte{vm.Stop, vm.Push, vm.Add, vm.Sub, vm.Mul, vm.Shl, vm.Shr, vm.And, vm.Dup, vm.Swap, vm.Drop, vm.Arg, vm.Data, vm.Jz, vm.I32, vm.U8} {
		if int(s) != i {
			t.Errorf("%d, not %d", s, i)
		}
	}
}

func TestP601StopAndTheEnd(t *testing.T) {
	runs(t, nil, 0, 1, api.OK)
	runs(t, []byte{vm.Stop}, 0, 1, api.OK)
	runs(t, []byte{vm.Stop, vm.Add}, 0, 1, api.OK)
	runs(t, of([]int{7, 8}, vm.Stop, 99), 8, 3, api.OK)
	makes(t, 8, []int{7, 8})
}

func TestP601Push(t *testing.T) {
	for _, n := range numbers() {
		makes(t, n, []int{n})
	}
	runs(t, []byte{vm.Push, 1, 2, 3, 4, 5, 6, 7, 8}, 0x0102030405060708, 2, api.OK)
	runs(t, []byte{vm.Push, 255, 255, 255, 255, 255, 255, 255, 254}, -2, 2, api.OK)
	for n := range 8 {
		runs(t, push(1 << 62)[:n+1], 0, 1, api.ErrCut)
		runs(t, append(push(5), push(6)[:n+1]...), 0, 2, api.ErrCut)
	}
}

func TestP601Sums(t *testing.T) {
	makes(t, 12, []int{5, 7}, vm.Add)
	makes(t, most, []int{most - 1, 1}, vm.Add)
	makes(t, least, []int{least + 1, -1}, vm.Add)
	makes(t, -2, []int{5, 7}, vm.Sub)
	makes(t, least, []int{-1, most}, vm.Sub)
	makes(t, 0, []int{least, least}, vm.Sub)
	makes(t, 35, []int{5, 7}, vm.Mul)
	makes(t, least, []int{1 << 62, -2}, vm.Mul)
	makes(t, -most, []int{-1, most}, vm.Mul)
	makes(t, 0, []int{least, 0}, vm.Mul)
	for _, x := range [][2]int{{most, 1}, {1, most}, {most, most}, {least, -1}, {least, least}, {1 << 62, 1 << 62}} {
		refuses(t, api.ErrOver, x[:], vm.Add)
	}
	for _, x := range [][2]int{{least, 1}, {0, least}, {most, -1}, {most, least}, {least, most}, {-2, most}} {
		refuses(t, api.ErrOver, x[:], vm.Sub)
	}
	for _, x := range [][2]int{{least, -1}, {-1, least}, {1 << 62, 2}, {least, 2}, {most, most}, {3037000500, 3037000500}, {1 << 32, 1 << 32}, {-1 << 32, 1<<31 + 1}} {
		refuses(t, api.ErrOver, x[:], vm.Mul)
	}
}

func TestP601Shifts(t *testing.T) {
	makes(t, 12, []int{3, 2}, vm.Shl)
	makes(t, 3, []int{3, 0}, vm.Shl)
	makes(t, least, []int{3, 63}, vm.Shl)
	makes(t, 0, []int{2, 63}, vm.Shl)
	makes(t, 0, []int{least, 1}, vm.Shl)
	makes(t, 3, []int{13, 2}, vm.Shr)
	makes(t, -4, []int{-13, 2}, vm.Shr)
	makes(t, 0, []int{most, 63}, vm.Shr)
	for _, b := range []int{64, 65, 128, 1 << 32, 1<<32 + 1, most} {
		makes(t, 0, []int{-1, b}, vm.Shl)
		makes(t, -1, []int{-7, b}, vm.Shr)
		makes(t, 0, []int{most, b}, vm.Shr)
	}
	for _, b := range []int{-1, -64, -1 << 32, least} {
		refuses(t, api.ErrArg, []int{1, b}, vm.Shl)
		refuses(t, api.ErrArg, []int{0, b}, vm.Shr)
	}
}

func TestP601AndAndCuts(t *testing.T) {
	makes(t, 4, []int{6, 12}, vm.And)
	makes(t, least, []int{-1, least}, vm.And)
	makes(t, 0, []int{most, least}, vm.And)
	makes(t, most, []int{most, -1}, vm.And)
	makes(t, 1<<31-1, []int{1<<31 - 1}, vm.I32)
	makes(t, -1<<31, []int{1 << 31}, vm.I32)
	makes(t, 0, []int{1 << 32}, vm.I32)
	makes(t, -1, []int{most}, vm.I32)
	makes(t, 0, []int{least}, vm.I32)
	makes(t, 1<<31-1, []int{-1<<31 - 1}, vm.I32)
	makes(t, 255, []int{255}, vm.U8)
	makes(t, 0, []int{256}, vm.U8)
	makes(t, 128, []int{-128}, vm.U8)
	makes(t, 255, []int{most}, vm.U8)
	makes(t, 0, []int{least}, vm.U8)
}

func TestP601TheStacksOwn(t *testing.T) {
	makes(t, 3, []int{3}, vm.Dup, vm.Swap, vm.Drop)
	makes(t, 6, []int{3}, vm.Dup, vm.Add)
	makes(t, -1, []int{3, 4}, vm.Sub)
	makes(t, 1, []int{3, 4}, vm.Swap, vm.Sub)
	makes(t, 3, []int{3, 4}, vm.Swap)
	makes(t, 4, []int{3, 4}, vm.Swap, vm.Drop)
	makes(t, 0, []int{3, 4}, vm.Drop, vm.Drop)
	makes(t, 1000, nil, vm.Arg)
	makes(t, -20, nil, vm.Data)
	makes(t, 980, nil, vm.Arg, vm.Data, vm.Add) // the chapter's first example
	makes(t, 1020, nil, vm.Arg, vm.Data, vm.Sub)
	for _, s := range []byte{vm.Dup, vm.Drop, vm.I32, vm.U8} {
		refuses(t, api.ErrStack, nil, s)
	}
	for _, s := range []byte{vm.Add, vm.Sub, vm.Mul, vm.Shl, vm.Shr, vm.And, vm.Swap} {
		refuses(t, api.ErrStack, nil, s)
		refuses(t, api.ErrStack, []int{-1}, s)
	}
}

func TestP601Jz(t *testing.T) {
	jump := func(n, k int, rest ...byte) []byte { return append(of([]int{n}, vm.Jz, byte(k)), rest...) }
	runs(t, jump(0, 13, 99, 99, vm.Arg), 1000, 4, api.OK)
	runs(t, jump(0, 11, vm.Arg), 1000, 4, api.OK)
	runs(t, jump(0, 12, vm.Arg), 0, 3, api.OK) // to the end
	runs(t, jump(0, 13, vm.Arg), 0, 2, api.ErrBad)
	runs(t, jump(0, 255, vm.Arg), 0, 2, api.ErrBad)
	for _, n := range []int{1, -1, 256, 1 << 32, least} {
		runs(t, jump(n, 13, vm.Arg), 1000, 4, api.OK)
		runs(t, jump(n, 255, vm.Arg), 1000, 4, api.OK)
		runs(t, jump(n, 0, vm.Arg), 1000, 4, api.OK)
	}
	runs(t, of([]int{4, 0}, vm.Jz, 20), 4, 4, api.OK)
	runs(t, of([]int{4, 1}, vm.Jz, 20), 4, 4, api.OK)
	runs(t, of([]int{0}, vm.Jz), 0, 2, api.ErrCut)
	runs(t, of([]int{1}, vm.Jz), 0, 2, api.ErrCut)
	runs(t, []byte{vm.Jz}, 0, 1, api.ErrCut)
	runs(t, []byte{vm.Jz, 0}, 0, 1, api.ErrStack)
	runs(t, []byte{vm.Jz, 255}, 0, 1, api.ErrStack)
	runs(t, []byte{vm.Data, vm.Arg, vm.Add, vm.Dup, vm.Drop, vm.Drop, vm.Data, vm.Jz, 0, vm.Arg}, 1000, 10, api.OK)
}

func TestP601AnotherSign(t *testing.T) {
	for s := 16; s < 256; s++ {
		refuses(t, api.ErrBad, nil, byte(s))
		refuses(t, api.ErrBad, []int{1, 2, 3}, byte(s))
	}
}
