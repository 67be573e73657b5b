package super_test

import (
	"bytes"
	"slices"
	"testing"

	"portage/api"
	"portage/bank"
	"portage/roster"
	"portage/super"
)

// spare is what stands in the spare room of what is handed in; it must stay there.
var spare = roster.Entry{State: -7, Size: -7}

// roomy is a superblock whose roster has spare room behind it, and all of that room.
func roomy(s super.Super) (super.Super, []roster.Entry) {
	whole := append(slices.Clone(s.Roster.List), spare, spare, spare, spare, spare, spare, spare, spare, spare)
	return super.Super{Gen: s.Gen, Root: s.Root, Roster: roster.Roster{List: whole[:len(s.Roster.List)]}}, whole
}

// overwrite lays x over all of a list, its spare room too.
func overwrite[T any](list []T, x T) {
	for i := range list[:cap(list)] {
		list[:cap(list)][i] = x
	}
}

func TestP6_5TheSuperblockHandedIn(t *testing.T) {
	all := notRight()
	for _, c := range right() {
		all = append(all, c.s)
	}
	for _, was := range all {
		s, whole := roomy(was)
		other, others := roomy(was)
		before := slices.Clone(whole)
		b := banked(t, 10, 10, 10)
		s.Check()
		s.Bytes()
		s.Same(other)
		s.Same(of(1, 7, 1))
		of(1, 7, 1).Same(s)
		super.Write(b, s)
		super.Read(b)
		super.On(b, 0)
		if !equal(s, was) || !slices.Equal(whole, before) || !slices.Equal(others, before) {
			t.Fatalf("what is handed in is changed: %v, %v, %v", s, whole, others)
		}
	}
}

// TestP6_5WriteKeepsNothing writes over a superblock behind its Write: what stands on the devices is as it was.
func TestP6_5WriteKeepsNothing(t *testing.T) {
	b := banked(t, 10, 10)
	s, whole := roomy(of(1, 7, 2))
	must(t, "Write", super.Write(b, s))
	before := holds(t, b)
	overwrite(whole, spare)
	if !bytes.Equal(holds(t, b), before) {
		t.Error("what was written is changed")
	}
	wantOn(t, b, 0, of(1, 7, 2))
	wantRead(t, b, of(1, 7, 2), 0, 1)
}

// TestP6_5WriteThatIsCutOffKeepsNothing does so with what waits, too.
func TestP6_5WriteThatIsCutOffKeepsNothing(t *testing.T) {
	b := banked(t, 10, 10)
	s, whole := roomy(of(1, 7, 2))
	b.Arm(2)
	wantFault(t, super.Write(b, s), "flush", 0, 0, api.ErrDown)
	overwrite(whole, spare)
	b.Crash(1, 1)
	wantRead(t, b, of(1, 7, 2), 0, 1)
}

func TestP6_5BytesAreNew(t *testing.T) {
	for _, c := range right() {
		s, whole := roomy(c.s)
		want := encoded(c.s)
		first, err := s.Bytes()
		must(t, "Bytes", err)
		second, err := s.Bytes()
		must(t, "Bytes", err)
		overwrite(first, '!')
		if !equal(s, c.s) {
			t.Errorf("the superblock shares memory with its bytes: %v", s)
		}
		overwrite(whole, spare)
		if !bytes.Equal(second, want) {
			t.Errorf("what was told is changed: %x", second)
		}
	}
}

func TestP6_5TheSectorHandedIn(t *testing.T) {
	for _, c := range right() {
		whole := append(encoded(c.s), bytes.Repeat([]byte{'~'}, 100)...)
		before := slices.Clone(whole)
		sector := whole[:api.Sector]
		first, err := super.Parse(sector)
		must(t, "Parse", err)
		second, err := super.Parse(sector)
		must(t, "Parse", err)
		for _, length := range []int{0, api.Sector - 1, api.Sector + 1} {
			super.Parse(whole[:length])
		}
		if !bytes.Equal(whole, before) {
			t.Errorf("what is handed in is changed: %x", whole)
		}
		overwrite(first.Roster.List, spare)
		overwrite(whole, '!')
		if !equal(second, c.s) {
			t.Errorf("what was told is changed: %v", second)
		}
	}
}

// TestP6_5AParseThatIsRefused hands in sectors in which no superblock stands: they are as they were.
func TestP6_5AParseThatIsRefused(t *testing.T) {
	next := numbers(3)
	for range 2000 {
		whole := append(next.anySector(), '~', '~')
		before := slices.Clone(whole)
		super.Parse(whole[:api.Sector])
		super.Parse(whole[:api.Sector-1])
		super.Parse(whole)
		if !bytes.Equal(whole, before) {
			t.Fatalf("what is handed in is changed: %x", whole)
		}
	}
}

// twice is a bank with two generations on each of three devices.
func twice(t *testing.T) *bank.Bank {
	b := banked(t, 10, 10, 10)
	must(t, "Write", super.Write(b, of(1, 7, 3)))
	must(t, "Write", super.Write(b, of(2, 8, 3)))
	return b
}

func TestP6_5WhatOnTellsIsNew(t *testing.T) {
	b := twice(t)
	first, second := super.On(b, 0), super.On(b, 0)
	overwrite(first[0].Roster.List, spare)
	if !equal(first[1], of(1, 7, 3)) {
		t.Errorf("two lists of one answer share memory: %v", first[1])
	}
	overwrite(first[1].Roster.List, spare)
	overwrite(first, super.Super{})
	if !slices.EqualFunc(second, []super.Super{of(2, 8, 3), of(1, 7, 3)}, equal) {
		t.Errorf("two answers share memory: %v", second)
	}
	wantOn(t, b, 0, of(2, 8, 3), of(1, 7, 3))
	wantRead(t, b, of(2, 8, 3), 0, 1, 2)
}

func TestP6_5WhatReadTellsIsNew(t *testing.T) {
	b := twice(t)
	first, holders, err := super.Read(b)
	must(t, "Read", err)
	second, others, err := super.Read(b)
	must(t, "Read", err)
	overwrite(first.Roster.List, spare)
	overwrite(holders, -7)
	if !equal(second, of(2, 8, 3)) || !slices.Equal(others, []int{0, 1, 2}) {
		t.Errorf("two answers share memory: %v, %v", second, others)
	}
	wantRead(t, b, of(2, 8, 3), 0, 1, 2)
	wantOn(t, b, 1, of(2, 8, 3), of(1, 7, 3))
}

// TestP6_5WhatWasToldStays lets the bank go on: what was told ahead of that is as it was.
func TestP6_5WhatWasToldStays(t *testing.T) {
	b := twice(t)
	s, holders, err := super.Read(b)
	must(t, "Read", err)
	on := super.On(b, 2)
	must(t, "Write", super.Write(b, of(3, 9, 2)))
	must(t, "Write", super.Write(b, of(4, 9, 2)))
	for device := range 3 {
		must(t, "Fill", b.Fill(device, []byte("anything")))
	}
	if !equal(s, of(2, 8, 3)) || !slices.Equal(holders, []int{0, 1, 2}) || !slices.EqualFunc(on, []super.Super{of(2, 8, 3), of(1, 7, 3)}, equal) {
		t.Errorf("what was told is changed: %v, %v, %v", s, holders, on)
	}
}
