package super_test

import (
	"slices"
	"testing"

	"portage/api"
	"portage/bank"
	"portage/roster"
	"portage/super"
)

// scene is a bank as some writes left it, and a superblock that follows the one that Read tells there.
type scene struct {
	name string
	make func(t *testing.T) *bank.Bank
	told super.Super
	next super.Super
}

// scenes are those in which the power goes: whichever devices come, change and go with the next superblock.
func scenes() []scene {
	whole := func(s super.Super, sizes ...int) func(t *testing.T) *bank.Bank {
		return func(t *testing.T) *bank.Bank {
			b := banked(t, sizes...)
			must(t, "Write", super.Write(b, s))
			return b
		}
	}
	next := func(s super.Super, entries ...roster.Entry) super.Super {
		return super.Super{Gen: s.Gen + 1, Root: s.Root + 1, Roster: with(entries...)}
	}
	one, two, four := of(1, 7, 2), of(2, 7, 2), of(4, 7, 4)
	return []scene{
		{"as they were", whole(one, 10, 10), one, of(2, 8, 2)},
		{"in the other slot", whole(two, 10, 10), two, of(3, 8, 2)},
		{"one alone", whole(of(5, 7, 1), 10), of(5, 7, 1), of(6, 8, 1)},
		{"four", whole(four, 10, 10, 10, 10), four, of(5, 8, 4)},
		{"two come", whole(two, 10, 10, 10, 10), two, of(3, 8, 4)},
		{"the first is left", whole(one, 10, 10), one, next(one, removed(10), active(10))},
		{"the last is left", whole(one, 10, 10), one, next(one, draining(10), removed(10))},
		{"all others", whole(one, 10, 10, 10, 10), one, next(one, removed(10), removed(10), active(10), active(10))},
		{"with an older one below", func(t *testing.T) *bank.Bank {
			b := banked(t, 10, 10, 10)
			must(t, "Write", super.Write(b, of(1, 5, 3)))
			must(t, "Write", super.Write(b, of(2, 6, 3)))
			return b
		}, of(2, 6, 3), of(3, 9, 3)},
		{"with a crash ahead", func(t *testing.T) *bank.Bank {
			b := banked(t, 10, 10, 10)
			must(t, "Write", super.Write(b, of(1, 5, 3)))
			must(t, "Write", super.Write(b, of(2, 6, 3)))
			b.Arm(3)
			wantFault(t, super.Write(b, of(3, 7, 3)), "flush", 0, 0, api.ErrDown)
			b.Crash(0, 1)
			return b
		}, of(3, 7, 3), of(4, 9, 3)},
		{"with a sector that is bad", func(t *testing.T) *bank.Bank {
			b := banked(t, 10, 10)
			must(t, "Write", super.Write(b, one))
			must(t, "Bad", b.Bad(0, 0, true))
			return b
		}, one, of(2, 8, 2)},
		{"the greatest", whole(of(greatest-1, 7, 2), 10, 10), of(greatest-1, 7, 2), of(greatest, 8, 2)},
	}
}

// picked are all ways to keep of so many sectors what they held, or one of the writes that wait.
func picked(sectors int) [][]int {
	all := [][]int{nil}
	for range sectors {
		var longer [][]int
		for _, picks := range all {
			for pick := range 2 {
				longer = append(longer, append(slices.Clone(picks), pick))
			}
		}
		all = longer
	}
	return all
}

// armedWrite lets the power go behind n writes and flushes of a Write, or behind all of it, and tells the bank ahead of the crash.
func (c scene) armedWrite(t *testing.T, n int) *bank.Bank {
	t.Helper()
	b := c.make(t)
	before, _, err := super.Read(b)
	if err != nil || !equal(before, c.told) || c.next.Gen != before.Gen+1 || b.Pending() != 0 {
		t.Fatalf("Read: %v, %v", before, err)
	}
	b.Arm(n)
	err = super.Write(b, c.next)
	if all := 2 * len(c.next.Roster.Members()); (err == nil) != (n >= all) || b.Down() != (n < all) {
		t.Fatalf("Write behind %d: %v", n, err)
	}
	return b
}

// wantBehind demands that Read tells what it told ahead of a Write or what was written: this as soon as one member that can be read has it for good, that as long as none has it.
func (c scene) wantBehind(t *testing.T, b *bank.Bank, n int, picks []int) {
	t.Helper()
	s, holders, err := super.Read(b)
	if err != nil || !s.Same(c.told) && !s.Same(c.next) {
		t.Fatalf("%s, behind %d with %v: Read tells %v, %v", c.name, n, picks, s, err)
	}
	members := c.next.Roster.Members()
	var kept []int
	for i, device := range members {
		flushed := n - len(members)
		waited := i - max(flushed, 0)
		if _, err := b.Read(device, c.next.Gen%api.Slots); err != nil {
			continue
		}
		if i < flushed || i < n && waited < len(picks) && picks[waited] > 0 {
			kept = append(kept, device)
		}
	}
	if s.Same(c.next) != (len(kept) > 0) || s.Same(c.next) && !slices.Equal(holders, kept) {
		t.Fatalf("%s, behind %d with %v: Read tells %v, %v; kept on %v", c.name, n, picks, s, holders, kept)
	}
}

// TestP6_4 lets the power go at each write and flush of a Write, and keeps whatever one likes.
func TestP6_4(t *testing.T) {
	for _, c := range scenes() {
		for n := range 2*len(c.next.Roster.Members()) + 1 {
			waits := c.armedWrite(t, n).Pending()
			for _, picks := range append(picked(waits), slices.Repeat([]int{9}, waits), slices.Repeat([]int{-1}, waits), nil) {
				b := c.armedWrite(t, n)
				b.Crash(picks...)
				c.wantBehind(t, b, n, picks)
			}
		}
	}
}

// TestP6_4EightMembers goes through all that may be kept where there are as many members as there can be.
func TestP6_4EightMembers(t *testing.T) {
	sizes := slices.Repeat([]int{3}, api.MaxDevices)
	told, next := of(7, 7, api.MaxDevices), of(8, 8, api.MaxDevices)
	c := scene{"eight", func(t *testing.T) *bank.Bank {
		b := banked(t, sizes...)
		must(t, "Write", super.Write(b, told))
		return b
	}, told, next}
	for n := range 2*api.MaxDevices + 1 {
		waits := c.armedWrite(t, n).Pending()
		for _, picks := range picked(waits) {
			b := c.armedWrite(t, n)
			b.Crash(picks...)
			c.wantBehind(t, b, n, picks)
		}
	}
}

// TestP6_4TwoWritesInOneSlot lets a Write end at a member that is not there, another one follow, and the power go then: one of both is kept, or none.
func TestP6_4TwoWritesInOneSlot(t *testing.T) {
	told, first, second := of(1, 7, 2), of(2, 8, 3), of(2, 9, 2)
	for n := range 5 {
		for _, picks := range [][]int{nil, {0, 1}, {1, 0}, {1, 1}, {2, 0}, {0, 2}, {2, 2}, {1, 2}, {2, 1}} {
			b := banked(t, 10, 10)
			must(t, "Write", super.Write(b, told))
			wantFault(t, super.Write(b, first), "write", 2, 0, api.ErrDevice)
			b.Arm(n)
			super.Write(b, second)
			b.Crash(picks...)
			s, _, err := super.Read(b)
			if err != nil || !s.Same(told) && !s.Same(first) && !s.Same(second) {
				t.Errorf("behind %d with %v: Read tells %v, %v", n, picks, s, err)
			}
			if n == 4 && !s.Same(second) {
				t.Errorf("what was flushed is lost: %v", s)
			}
		}
	}
}

// TestP6_4NothingWasThere lets the power go in the first Write of all.
func TestP6_4NothingWasThere(t *testing.T) {
	s := of(1, 7, 3)
	for n := range 7 {
		for _, picks := range picked(3) {
			b := banked(t, 10, 10, 10)
			b.Arm(n)
			super.Write(b, s)
			b.Crash(picks...)
			got, _, err := super.Read(b)
			if err != nil && (err != error(api.ErrNone) || n > 3) || err == nil && !got.Same(s) {
				t.Errorf("behind %d with %v: Read tells %v, %v", n, picks, got, err)
			}
		}
	}
}

// TestP6_4Long lets many Writes follow each other, with the power going in most of them: each follows what Read tells, with whichever devices.
func TestP6_4Long(t *testing.T) {
	for run := range 300 {
		next := numbers(run)
		b := banked(t, slices.Repeat([]int{3}, api.MaxDevices)...)
		told := of(1+next.below(100), 7, 1+next.below(api.MaxDevices))
		must(t, "Write", super.Write(b, told))
		for range 60 {
			s := super.Super{Gen: told.Gen + 1, Root: next.below(1000), Roster: next.roster(3)}
			b.Arm(next.below(2*api.MaxDevices + 2))
			err := super.Write(b, s)
			picks := make([]int, api.MaxDevices)
			for i := range picks {
				picks[i] = next.below(4) - 1
			}
			b.Crash(picks...)
			got, holders, e := super.Read(b)
			if e != nil || !got.Same(told) && !got.Same(s) {
				t.Fatalf("Read tells %v, %v, %v, not %v or %v", got, holders, e, told, s)
			}
			if err == nil && (!got.Same(s) || !slices.Equal(holders, s.Roster.Members())) {
				t.Fatalf("Read tells %v, %v, not %v", got, holders, s)
			}
			told = got
		}
	}
}
