package vm_test

import (
	"bytes"
	"math/rand"
	"slices"
	"strconv"
	"testing"

	"capstan/vm"
)

func TestP2WhatIsHandedInStays(t *testing.T) {
	r := rand.New(rand.NewSource(2))
	for range 20000 {
		m := anyone(r)
		m.Code, m.Stack = append(m.Code, 1, 2, 3), append(m.Stack, 7, 8, 9)
		code, stack := slices.Clone(m.Code), slices.Clone(m.Stack)
		m.Code, m.Stack = m.Code[:len(code)-3], m.Stack[:len(stack)-3]
		was := m
		vm.Step(m)
		vm.Run(m.Code, m.Arg, m.Data, 20)
		if !same(m, was) || !bytes.Equal(m.Code[:len(code)], code) || !slices.Equal(m.Stack[:len(stack)], stack) {
			t.Fatalf("what was handed in, or its spare room, became %+v", m)
		}
	}
}

// spoil changes a machine's lists, and their spare room.
func spoil(m vm.Machine) {
	for i := range m.Code[:cap(m.Code)] {
		m.Code[:cap(m.Code)][i] = 77
	}
	for i := range m.Stack[:cap(m.Stack)] {
		m.Stack[:cap(m.Stack)][i] = 77
	}
}

func TestP2AnswersAreNewMemory(t *testing.T) {
	code := append(make([]byte, 0, 20), vm.Arg, vm.Arg, vm.Add, vm.Stop)
	m := vm.New(code, 4, 0, 10)
	spoil(vm.New(code, 4, 0, 10))
	code[0] = 99
	if m.Code[0] != vm.Arg {
		t.Error("New keeps what it was handed")
	}
	for range 7 { // beyond its end, too: one that is Done is no less a new one
		was := told(m)
		spoil(vm.Step(m))
		n := vm.Step(m)
		spoil(m)
		if !same(n, was) {
			t.Fatalf("machines share memory: %+v, not %+v", n, was)
		}
		m = n
	}
}

// TestP2WhereAStepFails wants new memory there, too.
func TestP2WhereAStepFails(t *testing.T) {
	for _, code := range [][]byte{{vm.Add}, {vm.Push}, {99}, {vm.Jz, 9}} {
		for gas := range 2 {
			m := vm.Machine{Code: code, Gas: gas, Stack: []int{0}}
			was := slices.Clone(code)
			spoil(vm.Step(m))
			if !bytes.Equal(code, was) || m.Stack[0] != 0 {
				t.Errorf("%x, gas %d: what was handed in is answered", was, gas)
			}
		}
	}
}

func TestP3TheSameAgain(t *testing.T) {
	r := rand.New(rand.NewSource(3))
	for range 2000 {
		code, m := some(r, r.Intn(65)), anyone(r)
		n, used, e := vm.Run(code, 5, 0, 200)
		was := vm.Step(m)
		for range 2 {
			if n2, used2, e2 := vm.Run(code, 5, 0, 200); n2 != n || used2 != used || e2 != e {
				t.Errorf("%x: %d, %d, %v, then %d, %d, %v", code, n, used, e, n2, used2, e2)
			}
			if !same(vm.Step(m), was) {
				t.Errorf("%+v: another step", m)
			}
		}
	}
}

func TestP7SideBySide(t *testing.T) {
	for k := range 8 {
		t.Run(strconv.Itoa(k), func(t *testing.T) {
			t.Parallel()
			r := rand.New(rand.NewSource(int64(k)))
			for range 500 {
				checkRun(t, some(r, 60), 1, 0, 100)
			}
		})
	}
}
