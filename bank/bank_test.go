package bank_test

import (
	"bytes"
	"errors"
	"math"
	"slices"
	"testing"

	"portage/api"
	"portage/bank"
	"portage/fault"
)

// edges are numbers that a call may be handed at its worst.
var edges = []int{math.MinInt, math.MinInt + 1, math.MinInt32, -api.MaxSectors, -2, -1, api.MaxSectors + 1, math.MaxInt32, math.MaxInt - 1, math.MaxInt}

// of is a sector full of one byte.
func of(c byte) []byte { return bytes.Repeat([]byte{c}, api.Sector) }

// with is a bank with devices of so many sectors.
func with(t *testing.T, sizes ...int) *bank.Bank {
	t.Helper()
	b := bank.New()
	for i, n := range sizes {
		if device, err := b.Add(n); device != i || err != nil {
			t.Fatalf("Add(%d): %d, %v, not %d", n, device, err, i)
		}
	}
	return b
}

// trip takes a bank's power down by a flush of a device that is there, and lets nothing else happen.
func trip(t *testing.T, b *bank.Bank, device int) {
	t.Helper()
	b.Arm(0)
	wantFault(t, b.Flush(device), "flush", device, 0, api.ErrDown)
	if !b.Down() {
		t.Fatal("the power is not down")
	}
}

// must demands that a call has no error.
func must(t *testing.T, what string, err error) {
	t.Helper()
	if err != nil {
		t.Fatalf("%s: %v", what, err)
	}
}

// wantFault demands that err is just one fault, and which one.
func wantFault(t *testing.T, err error, op string, device, place int, code api.Code) {
	t.Helper()
	var f *fault.Fault
	if !errors.As(err, &f) || error(f) != err || f.Err != error(code) || f.Op != op || f.Device != device || f.Place != place {
		t.Errorf("%v, not %s %d:%d around %v", err, op, device, place, code)
	}
	if !errors.Is(err, code) {
		t.Errorf("errors.Is finds no %v in %v", code, err)
	}
}

// wantBytes demands that a device's sectors, from the first on, are full of these bytes.
func wantBytes(t *testing.T, b *bank.Bank, device int, want ...byte) {
	t.Helper()
	for i, c := range want {
		if data, err := b.Read(device, i); err != nil || !bytes.Equal(data, of(c)) {
			t.Errorf("Read(%d, %d): %x, %v, not %x", device, i, data, err, c)
		}
	}
}

// wantSizes demands how many sectors each device has.
func wantSizes(t *testing.T, b *bank.Bank, want ...int) {
	t.Helper()
	if sizes := b.Sizes(); !slices.Equal(sizes, want) {
		t.Errorf("Sizes: %v, not %v", sizes, want)
	}
}

// wantCounts demands what Done, Pending and Down tell.
func wantCounts(t *testing.T, b *bank.Bank, done, pending int, down bool) {
	t.Helper()
	if b.Done() != done || b.Pending() != pending || b.Down() != down {
		t.Errorf("Done, Pending, Down: %d, %d, %t, not %d, %d, %t", b.Done(), b.Pending(), b.Down(), done, pending, down)
	}
}

// call is a call that names a device, by the Op and the place that its faults must have.
type call struct {
	op    string
	place int
	do    func(b *bank.Bank, device int) error
}

// powered are calls that need the power, each right but for the device.
func powered(t *testing.T) []call {
	return []call{
		{"grow", 0, func(b *bank.Bank, device int) error { return b.Grow(device, 2) }},
		{"detach", 0, func(b *bank.Bank, device int) error { return b.Detach(device) }},
		{"read", 1, func(b *bank.Bank, device int) error {
			data, err := b.Read(device, 1)
			if err != nil && len(data) != 0 {
				t.Errorf("Read tells %x beside an error", data)
			}
			return err
		}},
		{"write", 1, func(b *bank.Bank, device int) error { return b.Write(device, 1, of('a')) }},
		{"flush", 0, func(b *bank.Bank, device int) error { return b.Flush(device) }},
	}
}

// powerless are calls that are done with the power down, too.
func powerless() []call {
	return []call{
		{"bad", 1, func(b *bank.Bank, device int) error { return b.Bad(device, 1, true) }},
		{"bad", 1, func(b *bank.Bank, device int) error { return b.Bad(device, 1, false) }},
		{"fill", 0, func(b *bank.Bank, device int) error { return b.Fill(device, of('f')) }},
	}
}

// wrong are calls that name a device that may be right, and beside it something that layer 3 refuses.
func wrong(t *testing.T, sector int) []call {
	return []call{
		{"grow", 0, func(b *bank.Bank, device int) error { return b.Grow(device, 0) }},
		{"read", sector, func(b *bank.Bank, device int) error { _, err := b.Read(device, sector); return err }},
		{"write", sector, func(b *bank.Bank, device int) error { return b.Write(device, sector, of('a')) }},
		{"write", sector, func(b *bank.Bank, device int) error { return b.Write(device, sector, nil) }},
		{"bad", sector, func(b *bank.Bank, device int) error { return b.Bad(device, sector, true) }},
	}
}

func TestP4_1New(t *testing.T) {
	b := bank.New()
	wantSizes(t, b)
	wantCounts(t, b, 0, 0, false)
	must(t, "Flush of none", b.Flush())
	b.Crash()
	b.Crash(1, 2, 3)
	wantSizes(t, b)
	wantCounts(t, b, 0, 0, false)
	for _, c := range append(powered(t), powerless()...) {
		for _, device := range append(edges, 0, 1) {
			wantFault(t, c.do(b, device), c.op, device, c.place, api.ErrDevice)
		}
	}
	wantCounts(t, b, 0, 0, false)
}

func TestP4_1NewIsNotArmed(t *testing.T) {
	b := with(t, 1)
	for range 100 {
		must(t, "Write", b.Write(0, 0, of('a')))
		must(t, "Flush", b.Flush(0))
	}
	wantCounts(t, b, 200, 0, false)
}

func TestP4_1BanksAreApart(t *testing.T) {
	a, b := with(t, 2), with(t, 2, 3)
	must(t, "Write", a.Write(0, 0, of('a')))
	trip(t, a, 0)
	wantCounts(t, b, 0, 0, false)
	wantBytes(t, b, 0, 0, 0)
	wantSizes(t, a, 2)
	wantSizes(t, b, 2, 3)
}

func TestP4_1Add(t *testing.T) {
	b := bank.New()
	var sizes []int
	for device, n := range []int{1, api.MaxSectors, 2, api.MaxSectors - 1, 50, 1, 7, 3} {
		if got, err := b.Add(n); got != device || err != nil {
			t.Fatalf("Add(%d): %d, %v, not %d", n, got, err, device)
		}
		sizes = append(sizes, n)
		wantSizes(t, b, sizes...)
		wantBytes(t, b, device, 0)
		if data, err := b.Read(device, n-1); err != nil || !bytes.Equal(data, of(0)) {
			t.Errorf("Read of the last sector: %x, %v", data, err)
		}
		_, err := b.Read(device, n)
		wantFault(t, err, "read", device, n, api.ErrRange)
	}
	wantCounts(t, b, 0, 0, false)
}

func TestP4_1AddRefused(t *testing.T) {
	for _, sizes := range [][]int{nil, {3}, {3, 4, 5, 6, 7, 8, 9}} {
		b := with(t, sizes...)
		for _, n := range append(edges, 0) {
			device, err := b.Add(n)
			wantFault(t, err, "add", len(sizes), 0, api.ErrRange)
			if device != 0 {
				t.Errorf("Add(%d) tells the device %d beside an error", n, device)
			}
			wantSizes(t, b, sizes...)
		}
		if device, err := b.Add(api.MaxSectors); device != len(sizes) || err != nil {
			t.Errorf("Add behind a refused one: %d, %v", device, err)
		}
	}
}

func TestP4_1Many(t *testing.T) {
	b := with(t, 1, 1, 1, 1, 1, 1, 1, 1)
	for _, n := range append(edges, 0, 1, api.MaxSectors) {
		device, err := b.Add(n)
		wantFault(t, err, "add", api.MaxDevices, 0, api.ErrMany)
		if device != 0 {
			t.Errorf("Add(%d) tells the device %d beside an error", n, device)
		}
	}
	wantSizes(t, b, 1, 1, 1, 1, 1, 1, 1, 1)
	for device := range api.MaxDevices {
		must(t, "Detach", b.Detach(device))
		_, err := b.Add(1)
		wantFault(t, err, "add", api.MaxDevices, 0, api.ErrMany)
	}
	wantSizes(t, b, 0, 0, 0, 0, 0, 0, 0, 0)
}

func TestP4_1NumbersOfDetachedDevicesStay(t *testing.T) {
	b := with(t, 2, 3, 4)
	must(t, "Detach", b.Detach(1))
	must(t, "Detach", b.Detach(2))
	wantSizes(t, b, 2, 0, 0)
	if device, err := b.Add(5); device != 3 || err != nil {
		t.Errorf("Add: %d, %v, not 3", device, err)
	}
	wantSizes(t, b, 2, 0, 0, 5)
	_, err := b.Read(1, 0)
	wantFault(t, err, "read", 1, 0, api.ErrGone)
	wantBytes(t, b, 0, 0, 0)
	wantBytes(t, b, 3, 0, 0, 0, 0, 0)
}

func TestP4_1AddWhileDown(t *testing.T) {
	for _, sizes := range [][]int{{1}, {1, 2, 3}, {1, 1, 1, 1, 1, 1, 1, 1}} {
		b := with(t, sizes...)
		trip(t, b, 0)
		for _, n := range append(edges, 0, 1, api.MaxSectors) {
			device, err := b.Add(n)
			wantFault(t, err, "add", len(sizes), 0, api.ErrDown)
			if device != 0 {
				t.Errorf("Add(%d) tells the device %d beside an error", n, device)
			}
		}
		wantSizes(t, b, sizes...)
	}
}

func TestP4_2Done(t *testing.T) {
	b := with(t, 2, 2, 2)
	must(t, "Write", b.Write(1, 0, of('a')))
	must(t, "Write", b.Write(1, 1, of('b')))
	must(t, "Write", b.Write(2, 1, of('c')))
	must(t, "Write", b.Write(2, 1, of('d')))
	must(t, "Grow", b.Grow(1, 2))
	must(t, "Bad", b.Bad(0, 1, true))
	wantSizes(t, b, 2, 4, 2)
	wantBytes(t, b, 0, 0)
	wantBytes(t, b, 1, 'a', 'b', 0, 0)
	wantBytes(t, b, 2, 0, 'd')
	_, err := b.Read(0, 1)
	wantFault(t, err, "read", 0, 1, api.ErrRead)
	must(t, "Bad", b.Bad(0, 1, false))
	wantBytes(t, b, 0, 0, 0)
	must(t, "Fill", b.Fill(1, []byte{'f'}))
	wantBytes(t, b, 1, 'f', 'f', 'f', 'f')
	wantCounts(t, b, 4, 1, false)
}

func TestP4_2NoSuchDevice(t *testing.T) {
	b := with(t, 2, 2, 2)
	for _, device := range append(edges, 3, 4, api.MaxDevices) {
		for _, c := range slices.Concat(powered(t), powerless(), wrong(t, -1), wrong(t, 2)) {
			wantFault(t, c.do(b, device), c.op, device, c.place, api.ErrDevice)
		}
	}
	wantSizes(t, b, 2, 2, 2)
	wantCounts(t, b, 0, 0, false)
}

func TestP4_2DetachedDevice(t *testing.T) {
	b := with(t, 2, 2, 2)
	must(t, "Detach", b.Detach(1))
	for _, c := range slices.Concat(powered(t), powerless(), wrong(t, -1), wrong(t, 2)) {
		wantFault(t, c.do(b, 1), c.op, 1, c.place, api.ErrGone)
	}
	wantSizes(t, b, 2, 0, 2)
	wantCounts(t, b, 0, 0, false)
}

func TestP4_2WhileDown(t *testing.T) {
	b := with(t, 2, 2, 2)
	must(t, "Detach", b.Detach(1))
	must(t, "Write", b.Write(0, 1, of('w')))
	trip(t, b, 2)
	for _, device := range append(edges, 0, 1, 2, 3) {
		for _, c := range powered(t) {
			wantFault(t, c.do(b, device), c.op, device, c.place, api.ErrDown)
		}
		for _, c := range slices.Concat(wrong(t, -1)[:4], wrong(t, 2)[:4]) {
			wantFault(t, c.do(b, device), c.op, device, c.place, api.ErrDown)
		}
	}
	wantSizes(t, b, 2, 0, 2)
	wantCounts(t, b, 1, 1, true)
	b.Crash(1)
	wantBytes(t, b, 0, 0, 'w')
	wantBytes(t, b, 2, 0, 0)
}

func TestP4_2BadAndFillWhileDown(t *testing.T) {
	b := with(t, 2, 2, 2)
	must(t, "Detach", b.Detach(1))
	trip(t, b, 2)
	for _, c := range append(powerless(), wrong(t, 2)[4]) {
		for _, device := range append(edges, 3, api.MaxDevices) {
			wantFault(t, c.do(b, device), c.op, device, c.place, api.ErrDevice)
		}
		wantFault(t, c.do(b, 1), c.op, 1, c.place, api.ErrGone)
	}
	for _, sector := range append(edges, 2) {
		wantFault(t, b.Bad(0, sector, true), "bad", 0, sector, api.ErrRange)
	}
	for _, c := range powerless() {
		must(t, c.op, c.do(b, 0))
	}
	wantCounts(t, b, 0, 0, true)
}

func TestP4_2WhatLayer3Refuses(t *testing.T) {
	b := with(t, 3, 5)
	for device, size := range b.Sizes() {
		must(t, "Write", b.Write(device, 0, of('a')))
		for _, sector := range append(edges, size, size+1) {
			data, err := b.Read(device, sector)
			wantFault(t, err, "read", device, sector, api.ErrRange)
			if len(data) != 0 {
				t.Errorf("Read tells %x beside an error", data)
			}
			wantFault(t, b.Write(device, sector, of('b')), "write", device, sector, api.ErrRange)
			wantFault(t, b.Write(device, sector, nil), "write", device, sector, api.ErrRange)
			wantFault(t, b.Bad(device, sector, true), "bad", device, sector, api.ErrRange)
			wantFault(t, b.Bad(device, sector, false), "bad", device, sector, api.ErrRange)
		}
		for _, n := range []int{0, 1, api.Sector - 1, api.Sector + 1, 2 * api.Sector} {
			wantFault(t, b.Write(device, 2, make([]byte, n)), "write", device, 2, api.ErrSize)
		}
		for _, more := range append(edges, 0, api.MaxSectors-size+1) {
			wantFault(t, b.Grow(device, more), "grow", device, 0, api.ErrRange)
		}
	}
	wantSizes(t, b, 3, 5)
	wantBytes(t, b, 0, 'a', 0, 0)
	wantBytes(t, b, 1, 'a', 0, 0, 0, 0)
	wantCounts(t, b, 2, 2, false)
}

func TestP4_2GrowToTheLimit(t *testing.T) {
	b := with(t, 3, 5)
	must(t, "Grow", b.Grow(1, api.MaxSectors-5))
	wantSizes(t, b, 3, api.MaxSectors)
	wantFault(t, b.Grow(1, 1), "grow", 1, 0, api.ErrRange)
	must(t, "Write", b.Write(1, api.MaxSectors-1, of('z')))
	b.Crash(1)
	if data, err := b.Read(1, api.MaxSectors-1); err != nil || !bytes.Equal(data, of('z')) {
		t.Errorf("Read: %x, %v", data, err)
	}
}

func TestP4_2BadSectors(t *testing.T) {
	b := with(t, 2, 2)
	must(t, "Bad", b.Bad(1, 1, true))
	data, err := b.Read(1, 1)
	wantFault(t, err, "read", 1, 1, api.ErrRead)
	if len(data) != 0 {
		t.Errorf("Read tells %x beside an error", data)
	}
	wantBytes(t, b, 0, 0, 0)
	wantBytes(t, b, 1, 0)
	must(t, "Write of a bad sector", b.Write(1, 1, of('a')))
	_, err = b.Read(1, 1)
	wantFault(t, err, "read", 1, 1, api.ErrRead)
	must(t, "Bad", b.Bad(1, 1, false))
	wantBytes(t, b, 1, 0, 'a')
}

func TestP4_2DetachTwice(t *testing.T) {
	b := with(t, 2, 2)
	must(t, "Detach", b.Detach(0))
	for range 2 {
		wantFault(t, b.Detach(0), "detach", 0, 0, api.ErrGone)
	}
	wantSizes(t, b, 0, 2)
	must(t, "Detach", b.Detach(1))
	wantFault(t, b.Detach(1), "detach", 1, 0, api.ErrGone)
	wantSizes(t, b, 0, 0)
}

func TestP4_2DetachLosesWhatWaits(t *testing.T) {
	b := with(t, 2, 2, 2)
	for device := range 3 {
		must(t, "Write", b.Write(device, 0, of(byte('a'+device))))
		must(t, "Write", b.Write(device, 1, of(byte('x'+device))))
	}
	must(t, "Detach", b.Detach(1))
	wantCounts(t, b, 6, 4, false)
	wantBytes(t, b, 0, 'a', 'x')
	wantBytes(t, b, 2, 'c', 'z')
	must(t, "Flush", b.Flush(0, 2))
	wantCounts(t, b, 8, 0, false)
	wantFault(t, b.Flush(1), "flush", 1, 0, api.ErrGone)
	wantSizes(t, b, 2, 0, 2)
}

func TestP4_3Example(t *testing.T) {
	b := with(t, 4, 4)
	b.Arm(1)
	must(t, "Write", b.Write(0, 1, of('a')))
	err := b.Write(1, 1, of('b'))
	wantFault(t, err, "write", 1, 1, api.ErrDown)
	if err.Error() != "write 1:1: "+api.ErrDown.Error() {
		t.Errorf("the fault tells %q", err.Error())
	}
	b.Crash(1)
	wantBytes(t, b, 0, 0, 'a', 0, 0)
	wantBytes(t, b, 1, 0, 0, 0, 0)
	wantCounts(t, b, 1, 0, false)
}

func TestP4_3Flush(t *testing.T) {
	for _, c := range []struct {
		devices []int
		last    [3]byte
		done    int
		pending int
	}{
		{nil, [3]byte{0, 0, 0}, 3, 3},
		{[]int{1}, [3]byte{0, 'a', 0}, 4, 2},
		{[]int{2, 0}, [3]byte{'a', 0, 'a'}, 5, 1},
		{[]int{0, 1, 2}, [3]byte{'a', 'a', 'a'}, 6, 0},
		{[]int{1, 1}, [3]byte{0, 'a', 0}, 5, 2},
		{[]int{2, 1, 2, 2}, [3]byte{0, 'a', 'a'}, 7, 1},
	} {
		b := with(t, 2, 2, 2)
		for device := range 3 {
			must(t, "Write", b.Write(device, 1, of('a')))
		}
		must(t, "Flush", b.Flush(c.devices...))
		wantCounts(t, b, c.done, c.pending, false)
		for device := range 3 {
			wantBytes(t, b, device, 0, 'a')
		}
		b.Crash()
		for device, last := range c.last {
			wantBytes(t, b, device, 0, last)
		}
		wantCounts(t, b, c.done, 0, false)
	}
}

func TestP4_3FlushEndsAtTheFirstError(t *testing.T) {
	for _, c := range []struct {
		devices []int
		wrong   int
		code    api.Code
		last    [4]byte
		done    int
	}{
		{[]int{0, 4, 2}, 4, api.ErrDevice, [4]byte{'a', 0, 0, 0}, 1},
		{[]int{0, 2, -1}, -1, api.ErrDevice, [4]byte{'a', 0, 'a', 0}, 2},
		{[]int{math.MaxInt, 0, 2}, math.MaxInt, api.ErrDevice, [4]byte{}, 0},
		{[]int{2, 1, 0}, 1, api.ErrGone, [4]byte{0, 0, 'a', 0}, 1},
		{[]int{3, 2, 1, 5, 0}, 1, api.ErrGone, [4]byte{0, 0, 'a', 'a'}, 2},
		{[]int{3, 5, 1}, 5, api.ErrDevice, [4]byte{0, 0, 0, 'a'}, 1},
	} {
		b := with(t, 1, 1, 1, 1)
		must(t, "Detach", b.Detach(1))
		for _, device := range []int{0, 2, 3} {
			must(t, "Write", b.Write(device, 0, of('a')))
		}
		wantFault(t, b.Flush(c.devices...), "flush", c.wrong, 0, c.code)
		wantCounts(t, b, 3+c.done, 3-c.done, false)
		b.Crash()
		for _, device := range []int{0, 2, 3} {
			wantBytes(t, b, device, c.last[device])
		}
	}
}

func TestP4_3ArmCountsWritesAndFlushes(t *testing.T) {
	for n := range 8 {
		b := with(t, 2, 2)
		b.Arm(n)
		done := 0
		for step := 0; done == step && step < 20; step++ {
			var err error
			device := step % 2
			op, place := "write", 1
			if step%3 == 2 {
				op, place = "flush", 0
				err = b.Flush(device)
			} else {
				err = b.Write(device, 1, of(byte('a'+step)))
			}
			if err == nil {
				done++
				continue
			}
			wantFault(t, err, op, device, place, api.ErrDown)
		}
		if done != n || b.Done() != n || !b.Down() {
			t.Errorf("armed with %d: %d are done, Done %d, Down %t", n, done, b.Done(), b.Down())
		}
	}
}

func TestP4_3TheOneBehindIsNotDone(t *testing.T) {
	b := with(t, 2)
	b.Arm(0)
	if b.Down() {
		t.Error("the power is down ahead of a write")
	}
	wantBytes(t, b, 0, 0, 0)
	wantFault(t, b.Write(0, 1, of('a')), "write", 0, 1, api.ErrDown)
	wantCounts(t, b, 0, 0, true)
	b.Crash(1, 1)
	wantBytes(t, b, 0, 0, 0)

	must(t, "Write", b.Write(0, 1, of('b')))
	b.Arm(0)
	wantFault(t, b.Flush(0), "flush", 0, 0, api.ErrDown)
	wantCounts(t, b, 1, 1, true)
	b.Crash()
	wantBytes(t, b, 0, 0, 0)
}

func TestP4_3ArmWithinAFlush(t *testing.T) {
	for n := range 5 {
		b := with(t, 1, 1, 1, 1)
		for device := range 4 {
			must(t, "Write", b.Write(device, 0, of('a')))
		}
		b.Arm(n)
		devices := []int{2, 0, 3, 1}
		err := b.Flush(devices...)
		if n == 4 {
			must(t, "Flush", err)
		} else {
			wantFault(t, err, "flush", devices[n], 0, api.ErrDown)
		}
		wantCounts(t, b, 4+n, 4-n, n < 4)
		b.Crash()
		for i, device := range devices {
			want := byte(0)
			if i < n {
				want = 'a'
			}
			wantBytes(t, b, device, want)
		}
	}
}

func TestP4_3FlushOfTheSameTwiceIsTwo(t *testing.T) {
	b := with(t, 1)
	must(t, "Write", b.Write(0, 0, of('a')))
	b.Arm(1)
	wantFault(t, b.Flush(0, 0), "flush", 0, 0, api.ErrDown)
	wantCounts(t, b, 2, 0, true)
}

func TestP4_3AnotherErrorWithinAFlushAtTheEnd(t *testing.T) {
	b := with(t, 1, 1)
	must(t, "Detach", b.Detach(1))
	b.Arm(1)
	wantFault(t, b.Flush(0, 1, 0), "flush", 1, 0, api.ErrGone)
	wantFault(t, b.Flush(2, 0), "flush", 2, 0, api.ErrDevice)
	wantCounts(t, b, 1, 0, false)
	wantFault(t, b.Flush(0, 1), "flush", 0, 0, api.ErrDown)
	wantCounts(t, b, 1, 0, true)
	wantFault(t, b.Flush(1, 0), "flush", 1, 0, api.ErrDown)
}

func TestP4_3FlushOfNoneWhileDown(t *testing.T) {
	b := with(t, 1)
	b.Arm(0)
	must(t, "Flush of none", b.Flush())
	wantCounts(t, b, 0, 0, false)
	trip(t, b, 0)
	must(t, "Flush of none", b.Flush())
	must(t, "Flush of none", b.Flush([]int{}...))
	wantCounts(t, b, 0, 0, true)
}

func TestP4_3NotArmedAnyMore(t *testing.T) {
	for _, n := range []int{-1, -2, math.MinInt32, math.MinInt + 1, math.MinInt} {
		for _, before := range []int{0, 1, 5, -1} {
			b := with(t, 1)
			b.Arm(before)
			b.Arm(n)
			for i := range 20 {
				must(t, "Write", b.Write(0, 0, of(byte(i))))
			}
			wantCounts(t, b, 20, 1, false)
		}
	}
}

func TestP4_3ArmAnew(t *testing.T) {
	for _, before := range []int{0, 1, 2, 9, math.MaxInt, -1} {
		for n := range 4 {
			b := with(t, 1)
			b.Arm(before)
			first := 0
			if before > 0 {
				must(t, "Write", b.Write(0, 0, of('a')))
				first = 1
			}
			b.Arm(n)
			for range n {
				must(t, "Write", b.Write(0, 0, of('b')))
			}
			wantFault(t, b.Write(0, 0, of('c')), "write", 0, 0, api.ErrDown)
			wantCounts(t, b, first+n, min(first+n, 1), true)
		}
	}
}

func TestP4_3ArmWithMuch(t *testing.T) {
	for _, n := range []int{math.MaxInt32, math.MaxInt - 1, math.MaxInt} {
		b := with(t, 1)
		b.Arm(n)
		for i := range 50 {
			must(t, "Write", b.Write(0, 0, of(byte(i))))
		}
		wantCounts(t, b, 50, 1, false)
	}
}

func TestP4_3WhatLayer3RefusesIsNotCounted(t *testing.T) {
	b := with(t, 3, 3)
	must(t, "Detach", b.Detach(1))
	for _, n := range []int{0, 1, 2} {
		b.Arm(n)
		for _, sector := range append(edges, 3) {
			wantFault(t, b.Write(0, sector, of('a')), "write", 0, sector, api.ErrRange)
			wantFault(t, b.Write(0, sector, nil), "write", 0, sector, api.ErrRange)
		}
		for _, size := range []int{0, 1, api.Sector - 1, api.Sector + 1} {
			for sector := range 3 {
				wantFault(t, b.Write(0, sector, make([]byte, size)), "write", 0, sector, api.ErrSize)
			}
		}
		wantFault(t, b.Write(1, 0, of('a')), "write", 1, 0, api.ErrGone)
		wantFault(t, b.Write(2, 0, of('a')), "write", 2, 0, api.ErrDevice)
		wantCounts(t, b, 0, 0, false)
	}
	must(t, "Write", b.Write(0, 0, of('a')))
	must(t, "Write", b.Write(0, 2, of('a')))
	wantFault(t, b.Write(0, 1, of('a')), "write", 0, 1, api.ErrDown)
	wantFault(t, b.Write(0, 3, of('a')), "write", 0, 3, api.ErrDown)
	wantCounts(t, b, 2, 2, true)
}

func TestP4_3EdgesOfTheDeviceTripThePower(t *testing.T) {
	for _, sector := range []int{0, 1, 2} {
		b := with(t, 2)
		must(t, "Grow", b.Grow(0, 1))
		must(t, "Bad", b.Bad(0, sector, true))
		b.Arm(0)
		wantFault(t, b.Write(0, sector, of('a')), "write", 0, sector, api.ErrDown)
		wantCounts(t, b, 0, 0, true)
	}
}

func TestP4_3OtherCallsAreNotCounted(t *testing.T) {
	b := with(t, 2, 2)
	b.Arm(0)
	if device, err := b.Add(2); device != 2 || err != nil {
		t.Errorf("Add: %d, %v", device, err)
	}
	must(t, "Grow", b.Grow(0, 1))
	must(t, "Bad", b.Bad(0, 1, true))
	must(t, "Fill", b.Fill(0, of('f')))
	must(t, "Detach", b.Detach(1))
	wantBytes(t, b, 0, 'f', 'f', 'f')
	wantSizes(t, b, 3, 0, 2)
	wantCounts(t, b, 0, 0, false)
	trip(t, b, 2)
}

func TestP4_3ArmDoesNotBringThePowerBack(t *testing.T) {
	b := with(t, 1)
	trip(t, b, 0)
	for _, n := range []int{5, -1, 0, math.MaxInt, math.MinInt} {
		b.Arm(n)
		wantFault(t, b.Write(0, 0, of('a')), "write", 0, 0, api.ErrDown)
		_, err := b.Read(0, 0)
		wantFault(t, err, "read", 0, 0, api.ErrDown)
		wantCounts(t, b, 0, 0, true)
	}
	b.Arm(0)
	b.Crash()
	must(t, "Write behind a crash", b.Write(0, 0, of('a')))
}

func TestP4_3DoneThroughCrashes(t *testing.T) {
	b := with(t, 2, 2)
	for n := range 4 {
		must(t, "Write", b.Write(0, 0, of('a')))
		must(t, "Flush", b.Flush(1, 0))
		b.Arm(n)
		wantCounts(t, b, 3*(n+1), 0, false)
		if n%2 == 0 {
			trip(t, b, 0)
		}
		b.Crash(1)
		wantCounts(t, b, 3*(n+1), 0, false)
	}
	must(t, "Detach", b.Detach(0))
	must(t, "Fill", b.Fill(1, nil))
	wantCounts(t, b, 12, 0, false)
}

func TestP4_4CrashSharesThePicksOut(t *testing.T) {
	for _, c := range []struct {
		picks []int
		want  [4][3]byte
	}{
		{nil, [4][3]byte{}},
		{[]int{1}, [4][3]byte{{'1', 0, 0}}},
		{[]int{0, 2}, [4][3]byte{{0, 0, '4'}}},
		{[]int{0, 0, 1}, [4][3]byte{2: {0, '5', 0}}},
		{[]int{1, 1, 2, 1}, [4][3]byte{0: {'1', 0, '3'}, 2: {0, '6', 0}, 3: {'7', 0, 0}}},
		{[]int{1, 1, 1, 1, 3}, [4][3]byte{0: {'1', 0, '3'}, 2: {0, '5', 0}, 3: {'7', 0, '8'}}},
		{[]int{-1, 9, math.MaxInt, math.MinInt, 1, 1, 1, 7, 7}, [4][3]byte{0: {0, 0, '4'}, 2: {0, '6', 0}, 3: {0, 0, '8'}}},
	} {
		b := with(t, 3, 3, 3, 3)
		for _, w := range []struct {
			device, sector int
			data           byte
		}{{3, 2, '8'}, {0, 2, '3'}, {2, 1, '5'}, {0, 0, '1'}, {0, 2, '4'}, {2, 1, '6'}, {3, 0, '7'}} {
			must(t, "Write", b.Write(w.device, w.sector, of(w.data)))
		}
		wantCounts(t, b, 7, 5, false)
		b.Crash(c.picks...)
		wantCounts(t, b, 7, 0, false)
		for device, want := range c.want {
			wantBytes(t, b, device, want[:]...)
		}
	}
}

func TestP4_4CrashWithADetachedDevice(t *testing.T) {
	b := with(t, 2, 2, 2)
	for device := range 3 {
		must(t, "Write", b.Write(device, 0, of('a')))
		must(t, "Write", b.Write(device, 1, of('b')))
	}
	must(t, "Detach", b.Detach(1))
	b.Crash(1, 0, 0, 1)
	wantBytes(t, b, 0, 'a', 0)
	wantBytes(t, b, 2, 0, 'b')
	wantSizes(t, b, 2, 0, 2)
	_, err := b.Read(1, 0)
	wantFault(t, err, "read", 1, 0, api.ErrGone)
	must(t, "Detach", b.Detach(0))
	must(t, "Detach", b.Detach(2))
	b.Crash(1, 1, 1)
	wantSizes(t, b, 0, 0, 0)
	wantCounts(t, b, 6, 0, false)
}

func TestP4_4ThePowerBehindACrash(t *testing.T) {
	for _, n := range []int{-1, 0, 1, 3} {
		b := with(t, 2, 2)
		b.Arm(n)
		b.Crash()
		for i := range 10 {
			must(t, "Write", b.Write(i%2, 1, of('a')))
		}
		trip(t, b, 0)
		b.Crash(1)
		wantCounts(t, b, 10, 0, false)
		for range 10 {
			must(t, "Flush", b.Flush(1))
		}
		if device, err := b.Add(1); device != 2 || err != nil {
			t.Errorf("Add: %d, %v", device, err)
		}
		must(t, "Grow", b.Grow(1, 1))
		wantBytes(t, b, 0, 0, 'a')
		wantBytes(t, b, 1, 0, 0, 0)
		must(t, "Detach", b.Detach(1))
		wantCounts(t, b, 20, 0, false)
	}
}

func TestP4_4CrashAfterCrash(t *testing.T) {
	b := with(t, 1, 1)
	must(t, "Write", b.Write(0, 0, of('a')))
	must(t, "Write", b.Write(1, 0, of('b')))
	b.Crash(0, 1)
	b.Crash(1, 1, 1)
	wantBytes(t, b, 0, 0)
	wantBytes(t, b, 1, 'b')
}

func TestP4_4Pending(t *testing.T) {
	b := with(t, 3, api.MaxSectors, 3)
	for sector := range api.MaxSectors {
		must(t, "Write", b.Write(1, sector, of('a')))
	}
	wantCounts(t, b, api.MaxSectors, api.MaxSectors, false)
	for range 3 {
		must(t, "Write", b.Write(0, 2, of('a')))
		must(t, "Write", b.Write(2, 1, of('a')))
	}
	wantCounts(t, b, api.MaxSectors+6, api.MaxSectors+2, false)
	must(t, "Flush", b.Flush(1))
	wantCounts(t, b, api.MaxSectors+7, 2, false)
	must(t, "Fill", b.Fill(0, nil))
	wantCounts(t, b, api.MaxSectors+7, 1, false)
	trip(t, b, 0)
	wantCounts(t, b, api.MaxSectors+7, 1, true)
	b.Crash()
	wantCounts(t, b, api.MaxSectors+7, 0, false)
}

func TestP4_4BadAndFillAreDoneWhileDown(t *testing.T) {
	b := with(t, 2, 2, 2)
	for device := range 3 {
		must(t, "Write", b.Write(device, 1, of('a')))
	}
	must(t, "Bad", b.Bad(2, 0, true))
	trip(t, b, 0)
	must(t, "Bad", b.Bad(0, 0, true))
	must(t, "Bad", b.Bad(2, 0, false))
	must(t, "Fill", b.Fill(1, []byte{'f'}))
	wantCounts(t, b, 3, 2, true)
	b.Crash(1, 1)
	_, err := b.Read(0, 0)
	wantFault(t, err, "read", 0, 0, api.ErrRead)
	must(t, "Bad", b.Bad(0, 0, false))
	wantBytes(t, b, 0, 0, 'a')
	wantBytes(t, b, 1, 'f', 'f')
	wantBytes(t, b, 2, 0, 'a')
}

func TestP4_4FillLaysBytesAgainAndAgain(t *testing.T) {
	b := with(t, 2, 2)
	must(t, "Bad", b.Bad(1, 1, true))
	must(t, "Write", b.Write(1, 0, of('a')))
	must(t, "Fill", b.Fill(1, []byte("abc")))
	want := bytes.Repeat([]byte("abc"), api.Sector)
	for sector := range 2 {
		data, err := b.Read(1, sector)
		if err != nil || !bytes.Equal(data, want[sector*api.Sector:(sector+1)*api.Sector]) {
			t.Errorf("Read(1, %d): %x, %v", sector, data, err)
		}
	}
	wantBytes(t, b, 0, 0, 0)
	must(t, "Fill with nothing", b.Fill(1, nil))
	wantBytes(t, b, 1, 0, 0)
	wantCounts(t, b, 1, 0, false)
}

// roomy is a list with spare room behind it, and all of that memory.
func roomy(data []byte) (list, all []byte) {
	all = append(slices.Clone(data), of('~')...)
	return all[:len(data)], all
}

// overwrite writes over a list and its spare room.
func overwrite(b []byte) {
	b = b[:cap(b)]
	for i := range b {
		b[i] = '!'
	}
}

func TestP4_5WhatIsHandedIn(t *testing.T) {
	b := with(t, 2, 2)
	data, whole := roomy(of('a'))
	before := slices.Clone(whole)
	must(t, "Write", b.Write(0, 0, data))
	must(t, "Fill", b.Fill(1, data))
	if !bytes.Equal(whole, before) {
		t.Errorf("what is handed in is changed: %x", whole)
	}
	overwrite(whole)
	wantBytes(t, b, 0, 'a', 0)
	wantBytes(t, b, 1, 'a', 'a')
	b.Crash(1)
	wantBytes(t, b, 0, 'a', 0)
}

func TestP4_5WhatIsRefusedIsNotKept(t *testing.T) {
	b := with(t, 1)
	data, whole := roomy(of('a'))
	before := slices.Clone(whole)
	b.Arm(0)
	wantFault(t, b.Write(0, 0, data[1:]), "write", 0, 0, api.ErrSize)
	wantFault(t, b.Write(0, 0, data), "write", 0, 0, api.ErrDown)
	wantFault(t, b.Write(0, 0, data), "write", 0, 0, api.ErrDown)
	if !bytes.Equal(whole, before) {
		t.Errorf("what is handed in is changed: %x", whole)
	}
	b.Crash(1)
	wantBytes(t, b, 0, 0)
}

func TestP4_5ListsOfNumbersHandedIn(t *testing.T) {
	b := with(t, 2, 2)
	for device := range 2 {
		must(t, "Write", b.Write(device, 0, of('a')))
		must(t, "Write", b.Write(device, 1, of('b')))
	}
	picks := []int{1, 0, -3, 9, 9, 7, 7}
	b.Crash(picks[:3]...)
	if !slices.Equal(picks, []int{1, 0, -3, 9, 9, 7, 7}) {
		t.Errorf("Crash changes the picks: %v", picks)
	}
	wantBytes(t, b, 0, 'a', 0)
	wantBytes(t, b, 1, 0, 0)
	devices := []int{1, 0, 1, 7, 7}
	must(t, "Flush", b.Flush(devices[:3]...))
	if !slices.Equal(devices, []int{1, 0, 1, 7, 7}) {
		t.Errorf("Flush changes the devices: %v", devices)
	}
}

func TestP4_5WhatIsReadIsNew(t *testing.T) {
	b := with(t, 2, 2)
	must(t, "Write", b.Write(0, 0, of('a')))
	must(t, "Flush", b.Flush(0))
	must(t, "Write", b.Write(0, 1, of('b')))
	must(t, "Fill", b.Fill(1, []byte{'c'}))
	for _, c := range []struct {
		device, sector int
		want           byte
	}{{0, 0, 'a'}, {0, 1, 'b'}, {1, 0, 'c'}, {1, 1, 'c'}} {
		first, err := b.Read(c.device, c.sector)
		must(t, "Read", err)
		second, err := b.Read(c.device, c.sector)
		must(t, "Read", err)
		overwrite(first)
		if !bytes.Equal(second, of(c.want)) {
			t.Errorf("two answers of Read share memory: %x", second)
		}
		wantBytes(t, b, 0, 'a', 'b')
		wantBytes(t, b, 1, 'c', 'c')
	}
	told, err := b.Read(0, 1)
	must(t, "Read", err)
	b.Crash()
	must(t, "Fill", b.Fill(0, []byte{'d'}))
	must(t, "Detach", b.Detach(0))
	if !bytes.Equal(told, of('b')) {
		t.Errorf("what was told is changed: %x", told)
	}
}

func TestP4_5SizesAreNew(t *testing.T) {
	b := with(t, 2, 3, 4)
	first, second := b.Sizes(), b.Sizes()
	all := first[:cap(first)]
	for i := range all {
		all[i] = -1
	}
	if !slices.Equal(second, []int{2, 3, 4}) {
		t.Errorf("two answers of Sizes share memory: %v", second)
	}
	wantSizes(t, b, 2, 3, 4)
	must(t, "Grow", b.Grow(0, 5))
	must(t, "Detach", b.Detach(1))
	if device, err := b.Add(1); device != 3 || err != nil {
		t.Errorf("Add: %d, %v", device, err)
	}
	if !slices.Equal(second, []int{2, 3, 4}) {
		t.Errorf("what Sizes told is changed: %v", second)
	}
	wantSizes(t, b, 7, 0, 4, 1)
}
