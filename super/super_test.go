package super_test

import (
	"bytes"
	"encoding/binary"
	"errors"
	"hash/crc32"
	"math"
	"slices"
	"testing"

	"portage/api"
	"portage/bank"
	"portage/fault"
	"portage/roster"
	"portage/super"
)

// greatest is the greatest Gen, and the greatest Root, that the chapter allows.
const greatest = 1 << 61

// edges are numbers that a call may be handed at its worst.
var edges = []int{math.MinInt, math.MinInt + 1, math.MinInt32, -api.MaxSectors, -2, -1, api.MaxDevices, math.MaxInt32, math.MaxInt - 1, math.MaxInt}

// with is a roster with these entries.
func with(entries ...roster.Entry) roster.Roster { return roster.Roster{List: entries} }

func active(size int) roster.Entry   { return roster.Entry{State: api.Active, Size: size} }
func draining(size int) roster.Entry { return roster.Entry{State: api.Draining, Size: size} }
func removed(size int) roster.Entry  { return roster.Entry{State: api.Removed, Size: size} }

// eight is a roster that has no place for another entry; its members are 0, 1, 3, 5 and 6.
func eight() roster.Roster {
	return with(active(10), draining(300), removed(0), active(3), removed(api.MaxSectors), draining(api.MaxSectors), active(api.MaxSectors), removed(2))
}

// full is a roster of eight members.
func full() roster.Roster {
	return with(slices.Repeat([]roster.Entry{active(10)}, api.MaxDevices)...)
}

// of is a superblock whose devices are all Active, and have 10 sectors each.
func of(gen, root, devices int) super.Super {
	return super.Super{Gen: gen, Root: root, Roster: with(full().List[:devices]...)}
}

// long is a number in eight bytes.
func long(n uint64) []byte { return binary.BigEndian.AppendUint64(nil, n) }

// framed is a sector with a payload as layer 2's chapter puts it, with a length that may be a lie.
func framed(kind byte, length int, payload []byte) []byte {
	sector := make([]byte, api.Sector)
	sector[0], sector[1] = kind, byte(length)
	copy(sector[2:api.Sector-4], payload)
	binary.BigEndian.PutUint32(sector[api.Sector-4:], crc32.ChecksumIEEE(sector[:api.Sector-4]))
	return sector
}

// standing is the sector that the chapter says a superblock with these numbers and these roster's bytes stands in, right or not.
func standing(gen, root uint64, devices ...byte) []byte {
	payload := slices.Concat(long(gen), long(root), devices)
	return framed(1, len(payload), payload)
}

// right are superblocks that are right, with their roster's bytes.
func right() []struct {
	s       super.Super
	devices []byte
} {
	return []struct {
		s       super.Super
		devices []byte
	}{
		{super.Super{Gen: 1, Root: 0, Roster: with(active(3))}, []byte{1, 1, 0, 3}},
		{super.Super{Gen: 1, Root: greatest, Roster: with(draining(3))}, []byte{1, 2, 0, 3}},
		{super.Super{Gen: 2, Root: 1, Roster: with(active(api.MaxSectors))}, []byte{1, 1, 16, 0}},
		{super.Super{Gen: greatest - 1, Root: greatest - 1, Roster: with(draining(10), active(5))}, []byte{2, 2, 0, 10, 1, 0, 5}},
		{super.Super{Gen: greatest, Root: 0, Roster: with(removed(0), active(5))}, []byte{2, 3, 0, 0, 1, 0, 5}},
		{super.Super{Gen: greatest, Root: greatest, Roster: with(removed(10), draining(258), removed(7))}, []byte{3, 3, 0, 10, 2, 1, 2, 3, 0, 7}},
		{super.Super{Gen: 0x0102030405060708, Root: 0x1112131415161718, Roster: full()}, []byte{8, 1, 0, 10, 1, 0, 10, 1, 0, 10, 1, 0, 10, 1, 0, 10, 1, 0, 10, 1, 0, 10, 1, 0, 10}},
		{super.Super{Gen: 255, Root: 256, Roster: eight()}, []byte{8, 1, 0, 10, 2, 1, 44, 3, 0, 0, 1, 0, 3, 3, 16, 0, 2, 16, 0, 1, 16, 0, 3, 0, 2}},
	}
}

// notRight are superblocks that are not right, each for one reason.
func notRight() []super.Super {
	var all []super.Super
	for _, r := range []roster.Roster{with(active(10)), eight()} {
		for _, gen := range []int{0, -1, -2, math.MinInt, greatest + 1, greatest + 2, 1<<62 - 1, 1 << 62, math.MaxInt} {
			all = append(all, super.Super{Gen: gen, Root: 7, Roster: r})
		}
		for _, root := range []int{-1, -2, math.MinInt, greatest + 1, greatest + 2, 1<<62 - 1, 1 << 62, math.MaxInt} {
			all = append(all, super.Super{Gen: 7, Root: root, Roster: r})
		}
	}
	for _, r := range []roster.Roster{
		{}, with([]roster.Entry{}...), {List: []roster.Entry{}}, with(removed(0)), with(removed(10), removed(api.MaxSectors)),
		with(slices.Repeat([]roster.Entry{removed(10)}, api.MaxDevices)...),
		with(active(api.Slots)), with(draining(api.Slots)), with(active(0)), with(active(-1)), with(active(api.MaxSectors + 1)), with(active(math.MaxInt)),
		with(active(10), roster.Entry{}), with(active(10), roster.Entry{State: 4, Size: 10}), with(roster.Entry{State: -1, Size: 10}, active(10)),
		with(active(10), removed(-1)), with(active(10), removed(api.MaxSectors+1)), with(active(10), draining(2)),
		with(append(full().List, active(10))...), with(append(full().List, removed(0))...), with(slices.Repeat([]roster.Entry{active(10)}, 300)...),
	} {
		all = append(all, super.Super{Gen: 7, Root: 7, Roster: r})
	}
	return append(all, super.Super{}, super.Super{Gen: math.MinInt, Root: math.MinInt, Roster: with(active(math.MinInt))})
}

// equal tells whether two superblocks have the same in them, right or not.
func equal(s, o super.Super) bool {
	return s.Gen == o.Gen && s.Root == o.Root && slices.Equal(s.Roster.List, o.Roster.List)
}

// wantCode demands that err is this bare code.
func wantCode(t *testing.T, what string, err error, code api.Code) {
	t.Helper()
	var f *fault.Fault
	if err != error(code) || !errors.Is(err, code) || errors.As(err, &f) {
		t.Errorf("%s: %v, not %v", what, err, code)
	}
}

// wantFault demands that err is just one fault, and which one.
func wantFault(t *testing.T, err error, op string, device, place int, code api.Code) {
	t.Helper()
	var f *fault.Fault
	if !errors.As(err, &f) || error(f) != err || f.Err != error(code) || f.Op != op || f.Device != device || f.Place != place {
		t.Errorf("%v, not %s %d:%d around %v", err, op, device, place, code)
	}
	if !errors.Is(err, code) {
		t.Errorf("errors.Is finds no %v in %v", code, err)
	}
}

// wantRead demands what Read tells.
func wantRead(t *testing.T, b *bank.Bank, want super.Super, holders ...int) {
	t.Helper()
	s, l, err := super.Read(b)
	if err != nil || !equal(s, want) || !slices.Equal(l, holders) {
		t.Errorf("Read: %v, %v, %v, not %v, %v", s, l, err, want, holders)
	}
}

// wantNoRead demands that Read tells this error, and nothing beside it.
func wantNoRead(t *testing.T, b *bank.Bank, code api.Code) {
	t.Helper()
	s, l, err := super.Read(b)
	wantCode(t, "Read", err, code)
	if !equal(s, super.Super{}) || len(l) != 0 {
		t.Errorf("Read tells %v, %v beside an error", s, l)
	}
}

// wantOn demands what counts on a device.
func wantOn(t *testing.T, b *bank.Bank, device int, want ...super.Super) {
	t.Helper()
	if got := super.On(b, device); !slices.EqualFunc(got, want, equal) {
		t.Errorf("On(%d): %v, not %v", device, got, want)
	}
}

// banked is a bank with devices of so many sectors.
func banked(t *testing.T, sizes ...int) *bank.Bank {
	t.Helper()
	b := bank.New()
	for i, n := range sizes {
		if device, err := b.Add(n); device != i || err != nil {
			t.Fatalf("Add(%d): %d, %v, not %d", n, device, err, i)
		}
	}
	return b
}

// must demands that a call has no error.
func must(t *testing.T, what string, err error) {
	t.Helper()
	if err != nil {
		t.Fatalf("%s: %v", what, err)
	}
}

// lay writes a superblock for good to a sector of a device, be it its slot or not.
func lay(t *testing.T, b *bank.Bank, device, sector int, s super.Super) {
	t.Helper()
	data, err := s.Bytes()
	must(t, "Bytes", err)
	must(t, "Write", b.Write(device, sector, data))
	must(t, "Flush", b.Flush(device))
}

// holds tells all bytes of a bank, as they can be read.
func holds(t *testing.T, b *bank.Bank) []byte {
	t.Helper()
	var all []byte
	for device, size := range b.Sizes() {
		for sector := range size {
			data, err := b.Read(device, sector)
			must(t, "Read", err)
			all = append(all, data...)
		}
	}
	return all
}

func TestP6Example(t *testing.T) {
	b := banked(t, 10, 10)
	one := of(1, 0, 2)
	must(t, "Write", super.Write(b, one))
	want := standing(1, 0, 2, 1, 0, 10, 1, 0, 10)
	for device := range 2 {
		for sector := range 10 {
			data, err := b.Read(device, sector)
			must(t, "Read", err)
			if sector == 1 && !bytes.Equal(data, want) || sector != 1 && !bytes.Equal(data, make([]byte, api.Sector)) {
				t.Errorf("%d:%d holds %x", device, sector, data)
			}
		}
	}
	wantRead(t, b, one, 0, 1)
	two := of(2, 0, 2)
	b.Arm(1)
	wantFault(t, super.Write(b, two), "write", 1, 0, api.ErrDown)
	b.Crash(1)
	wantRead(t, b, two, 0)
}

func TestP6_1Right(t *testing.T) {
	for _, c := range right() {
		if err := c.s.Check(); err != nil {
			t.Errorf("Check of %v: %v", c.s, err)
		}
	}
}

func TestP6_1NotRight(t *testing.T) {
	for _, s := range notRight() {
		wantCode(t, "Check", s.Check(), api.ErrForm)
		data, err := s.Bytes()
		wantCode(t, "Bytes", err, api.ErrForm)
		if len(data) != 0 {
			t.Errorf("Bytes tells %x beside an error", data)
		}
		if t.Failed() {
			t.Fatalf("of %v", s)
		}
	}
}

func TestP6_1Bytes(t *testing.T) {
	for _, c := range right() {
		want := standing(uint64(c.s.Gen), uint64(c.s.Root), c.devices...)
		if got, err := c.s.Bytes(); err != nil || !bytes.Equal(got, want) {
			t.Errorf("Bytes of %v: %x, %v, not %x", c.s, got, err, want)
		}
		if got, err := super.Parse(want); err != nil || !equal(got, c.s) {
			t.Errorf("Parse of %x: %v, %v, not %v", want, got, err, c.s)
		}
	}
}

// wantUnparsed demands that no superblock stands in a sector.
func wantUnparsed(t *testing.T, what string, sector []byte) {
	t.Helper()
	s, err := super.Parse(sector)
	wantCode(t, what, err, api.ErrForm)
	if !equal(s, super.Super{}) {
		t.Errorf("%s: Parse tells %v beside an error", what, s)
	}
}

func TestP6_1ParseOfAnotherLength(t *testing.T) {
	for _, c := range right() {
		sector, err := c.s.Bytes()
		must(t, "Bytes", err)
		for length := range api.Sector {
			wantUnparsed(t, "cut off at the end", sector[:length])
			wantUnparsed(t, "cut off at the beginning", sector[api.Sector-length:])
		}
		for _, more := range []int{1, 2, api.Sector, 1000} {
			wantUnparsed(t, "with more behind it", append(slices.Clone(sector), make([]byte, more)...))
			wantUnparsed(t, "with more ahead of it", append(make([]byte, more), sector...))
		}
		wantUnparsed(t, "twice", slices.Concat(sector, sector))
	}
	wantUnparsed(t, "nil", nil)
	wantUnparsed(t, "noughts", make([]byte, api.Sector))
	wantUnparsed(t, "all bits", bytes.Repeat([]byte{255}, api.Sector))
	wantUnparsed(t, "a great one", make([]byte, 1<<20))
}

func TestP6_1ParseOfAnotherKind(t *testing.T) {
	payload := slices.Concat(long(1), long(0), []byte{1, 1, 0, 3})
	for kind := range 256 {
		if sector := framed(byte(kind), len(payload), payload); kind != 1 {
			wantUnparsed(t, "another kind", sector)
		} else if _, err := super.Parse(sector); err != nil {
			t.Errorf("Parse: %v", err)
		}
	}
}

func TestP6_1ParseOfAnotherPayload(t *testing.T) {
	for _, c := range right() {
		payload := slices.Concat(long(uint64(c.s.Gen)), long(uint64(c.s.Root)), c.devices)
		for length := range len(payload) {
			wantUnparsed(t, "cut off", framed(1, length, payload[:length]))
		}
		for length := len(payload) + 1; length <= api.Payload; length++ {
			wantUnparsed(t, "with noughts behind it", framed(1, length, payload))
			wantUnparsed(t, "with more behind it", framed(1, length, append(slices.Clone(payload), bytes.Repeat([]byte{1}, length-len(payload))...)))
		}
		for _, length := range []int{0, 16, len(payload) - 1, api.Payload + 1, 128, 255} {
			wantUnparsed(t, "with a length that is a lie", framed(1, length, payload))
		}
		wantUnparsed(t, "with a byte behind its length", framed(1, len(payload), append(slices.Clone(payload), 1)))
		if t.Failed() {
			t.Fatalf("of %v", c.s)
		}
	}
}

func TestP6_1ParseOfNumbersThatAreNotRight(t *testing.T) {
	good := []byte{1, 1, 0, 3}
	for _, n := range []uint64{greatest + 1, greatest + 2, 1<<62 - 1, 1 << 62, 1<<62 + 1, 1 << 63, 1<<63 + 1, math.MaxUint64} {
		wantUnparsed(t, "Gen", standing(n, 7, good...))
		wantUnparsed(t, "Root", standing(7, n, good...))
		wantUnparsed(t, "both", standing(n, n, good...))
	}
	wantUnparsed(t, "Gen", standing(0, 0, good...))
	wantUnparsed(t, "Gen", standing(0, 7, good...))
	for _, n := range []uint64{1, 2, greatest} {
		if s, err := super.Parse(standing(n, n, good...)); err != nil || s.Gen != int(n) || s.Root != int(n) {
			t.Errorf("Parse: %v, %v", s, err)
		}
	}
}

func TestP6_1ParseOfRostersThatAreNotRight(t *testing.T) {
	for _, devices := range [][]byte{
		{}, {0}, {1, 3, 0, 10}, {2, 3, 0, 10, 3, 0, 0}, append([]byte{8}, bytes.Repeat([]byte{3, 0, 10}, 8)...),
		{1, 0, 0, 10}, {1, 4, 0, 10}, {1, 255, 0, 10}, {1, 1, 0, 2}, {1, 2, 0, 2}, {1, 1, 0, 0}, {1, 1, 16, 1}, {1, 2, 255, 255},
		{2, 1, 0, 10, 3, 16, 1}, {2, 1, 0, 10, 0, 0, 0}, {2, 1, 0, 10}, {2, 1, 0, 10, 1, 0}, {0, 1, 0, 10}, {1, 1, 0, 10, 1, 0, 10},
		append([]byte{9}, bytes.Repeat([]byte{1, 0, 10}, 9)...), append([]byte{255}, bytes.Repeat([]byte{1, 0, 10}, 33)...),
	} {
		wantUnparsed(t, "roster", standing(7, 7, devices...))
		if t.Failed() {
			t.Fatalf("of %x", devices)
		}
	}
}

func TestP6_1ParseOfAFrameWithOneByteChanged(t *testing.T) {
	for _, c := range right() {
		sector, err := c.s.Bytes()
		must(t, "Bytes", err)
		for i := range sector {
			for by := 1; by < 256; by++ {
				sector[i] ^= byte(by)
				wantUnparsed(t, "changed", sector)
				sector[i] ^= byte(by)
			}
		}
		if got, err := super.Parse(sector); err != nil || !equal(got, c.s) {
			t.Errorf("Parse: %v, %v", got, err)
		}
	}
}

func TestP6_1Same(t *testing.T) {
	all := right()
	for i, c := range all {
		for j, o := range right() {
			if got := c.s.Same(o.s); got != (i == j) {
				t.Errorf("%v is the same as %v: %t", c.s, o.s, got)
			}
		}
	}
	base := func() super.Super {
		return super.Super{Gen: 5, Root: 6, Roster: with(active(10), draining(20), removed(30))}
	}
	if !base().Same(base()) {
		t.Error("one is not the same as an equal one")
	}
	for _, change := range []func(s *super.Super){
		func(s *super.Super) { s.Gen++ },
		func(s *super.Super) { s.Gen-- },
		func(s *super.Super) { s.Gen += 1 << 32 },
		func(s *super.Super) { s.Root++ },
		func(s *super.Super) { s.Root-- },
		func(s *super.Super) { s.Root += 1 << 32 },
		func(s *super.Super) { s.Gen, s.Root = s.Root, s.Gen },
		func(s *super.Super) { s.Roster.List[0].Size++ },
		func(s *super.Super) { s.Roster.List[2].Size++ },
		func(s *super.Super) { s.Roster.List[0].State = api.Draining },
		func(s *super.Super) { s.Roster.List[1].State = api.Removed },
		func(s *super.Super) { s.Roster.List = s.Roster.List[:2] },
		func(s *super.Super) { s.Roster.List = append(s.Roster.List, removed(0)) },
	} {
		o := base()
		change(&o)
		must(t, "Check", o.Check())
		if o.Same(base()) || base().Same(o) {
			t.Errorf("%v is the same as %v", o, base())
		}
	}
}

func TestP6_1SameWithOneThatIsNotRight(t *testing.T) {
	for _, s := range notRight() {
		if s.Same(s) {
			t.Errorf("%v is the same as itself", s)
		}
		for _, c := range right() {
			for _, o := range []super.Super{c.s, {Gen: s.Gen, Root: s.Root, Roster: c.s.Roster}} {
				if s.Same(o) || o.Same(s) {
					t.Errorf("%v is the same as %v", s, o)
				}
			}
		}
	}
}

func TestP6_2NotRight(t *testing.T) {
	b := banked(t, 10, 10)
	must(t, "Write", super.Write(b, of(1, 7, 2)))
	must(t, "Write", b.Write(0, 5, bytes.Repeat([]byte{'w'}, api.Sector)))
	before, done := holds(t, b), b.Done()
	b.Arm(0)
	for _, s := range notRight() {
		wantCode(t, "Write", super.Write(b, s), api.ErrForm)
		if b.Down() || b.Done() != done || b.Pending() != 1 || !bytes.Equal(holds(t, b), before) {
			t.Fatalf("Write of %v did something", s)
		}
	}
	wantRead(t, b, of(1, 7, 2), 0, 1)
	wantFault(t, b.Flush(0), "flush", 0, 0, api.ErrDown)
	for _, s := range notRight() {
		wantCode(t, "Write with the power down", super.Write(b, s), api.ErrForm)
	}
	b.Crash(1)
	if !bytes.Equal(holds(t, b), before) {
		t.Error("what waited is not as it was")
	}
}

// TestP6_2Slots holds all sectors of a bank against what is to be written: the slot by Gen, on the members alone, for good.
func TestP6_2Slots(t *testing.T) {
	r := with(draining(10), removed(10), active(4), removed(0), active(3))
	for _, gen := range []int{1, 2, 3, 4, 255, 256, greatest - 1, greatest} {
		b := banked(t, 10, 10, 4, 10, 3, 10)
		s := super.Super{Gen: gen, Root: gen - 1, Roster: r}
		must(t, "Write", super.Write(b, s))
		if b.Done() != 6 || b.Pending() != 0 || b.Down() {
			t.Errorf("Done, Pending, Down: %d, %d, %t", b.Done(), b.Pending(), b.Down())
		}
		b.Crash()
		sector := standing(uint64(gen), uint64(gen-1), 5, 2, 0, 10, 3, 0, 10, 1, 0, 4, 3, 0, 0, 1, 0, 3)
		var want []byte
		for device, size := range b.Sizes() {
			all := make([]byte, size*api.Sector)
			if device == 0 || device == 2 || device == 4 {
				copy(all[gen%2*api.Sector:], sector)
			}
			want = append(want, all...)
		}
		if !bytes.Equal(holds(t, b), want) {
			t.Errorf("Gen %d: the bank does not hold what it should", gen)
		}
		wantRead(t, b, s, 0, 2, 4)
	}
}

// TestP6_2Again lets generations follow each other: each stands in the slot that the one ahead of it does not have.
func TestP6_2Again(t *testing.T) {
	b := banked(t, 10, 10)
	must(t, "Write", super.Write(b, of(1, 0, 2)))
	wantOn(t, b, 1, of(1, 0, 2))
	for gen := 2; gen < 10; gen++ {
		must(t, "Write", super.Write(b, of(gen, 3*gen, 2)))
		wantRead(t, b, of(gen, 3*gen, 2), 0, 1)
		older := of(gen-1, 3*(gen-1), 2)
		if gen == 2 {
			older.Root = 0
		}
		on := []super.Super{of(gen, 3*gen, 2), older}
		if gen%2 == 1 {
			slices.Reverse(on)
		}
		wantOn(t, b, 0, on...)
		wantOn(t, b, 1, on...)
	}
	must(t, "Write of the same one", super.Write(b, of(9, 27, 2)))
	must(t, "Write of an older one", super.Write(b, of(2, 1, 2)))
	wantRead(t, b, of(9, 27, 2), 0, 1)
	wantOn(t, b, 0, of(2, 1, 2), of(9, 27, 2))
}

// TestP6_2FlushesAllThatWaits lets something else wait on a member and beside it: a flush is one of the whole member.
func TestP6_2FlushesAllThatWaits(t *testing.T) {
	b := banked(t, 10, 10)
	data := bytes.Repeat([]byte{'w'}, api.Sector)
	must(t, "Write", b.Write(0, 5, data))
	must(t, "Write", b.Write(1, 5, data))
	must(t, "Write", super.Write(b, of(1, 0, 1)))
	if b.Pending() != 1 {
		t.Errorf("Pending: %d, not 1", b.Pending())
	}
	b.Crash()
	first, err := b.Read(0, 5)
	must(t, "Read", err)
	second, err := b.Read(1, 5)
	must(t, "Read", err)
	if !bytes.Equal(first, data) || bytes.Equal(second, data) {
		t.Errorf("%x and %x are kept", first, second)
	}
}

// TestP6_2OneThatIsNotThere has a member in the midst that cannot be written: those ahead of it were written, nothing else was done.
func TestP6_2OneThatIsNotThere(t *testing.T) {
	for _, c := range []struct {
		name   string
		make   func() *bank.Bank
		gen    int
		device int
		code   api.Code
	}{
		{"detached", func() *bank.Bank {
			b := banked(t, 10, 10, 10, 10)
			must(t, "Detach", b.Detach(2))
			return b
		}, 1, 2, api.ErrGone},
		{"the first one is detached", func() *bank.Bank {
			b := banked(t, 10, 10, 10, 10)
			must(t, "Detach", b.Detach(0))
			return b
		}, 2, 0, api.ErrGone},
		{"the last one is detached, too", func() *bank.Bank {
			b := banked(t, 10, 10, 10, 10)
			must(t, "Detach", b.Detach(3))
			must(t, "Detach", b.Detach(1))
			return b
		}, 2, 1, api.ErrGone},
		{"beyond the bank", func() *bank.Bank { return banked(t, 10, 10, 10) }, 3, 3, api.ErrDevice},
		{"a bank without devices", bank.New, 3, 0, api.ErrDevice},
		{"too small", func() *bank.Bank { return banked(t, 10, 1, 10, 10) }, 1, 1, api.ErrRange},
	} {
		b := c.make()
		s := of(c.gen, 7, 4)
		wantFault(t, super.Write(b, s), "write", c.device, c.gen%2, c.code)
		if b.Done() != c.device || b.Pending() != c.device || b.Down() {
			t.Errorf("%s: Done, Pending, Down: %d, %d, %t", c.name, b.Done(), b.Pending(), b.Down())
		}
		for device := range b.Sizes() {
			if device < c.device {
				wantOn(t, b, device, s)
			} else {
				wantOn(t, b, device)
			}
		}
		b.Crash()
		wantNoRead(t, b, api.ErrNone)
		if t.Failed() {
			t.Fatal(c.name)
		}
	}
}

// TestP6_2NoMemberIsNotThere has devices that are missing, and are no members: they play no part.
func TestP6_2NoMemberIsNotThere(t *testing.T) {
	b := banked(t, 10, 10, 10)
	must(t, "Detach", b.Detach(1))
	s := super.Super{Gen: 1, Roster: with(active(10), removed(10), draining(10), removed(10), removed(0))}
	must(t, "Write", super.Write(b, s))
	wantRead(t, b, s, 0, 2)
}

func TestP6_2OneIsEnoughInTheFirstSlot(t *testing.T) {
	b := banked(t, 1, 10)
	s := of(2, 7, 2)
	must(t, "Write", super.Write(b, s))
	wantRead(t, b, s, 0, 1)
}

func TestP6_2BadSectorsAreWritten(t *testing.T) {
	b := banked(t, 10, 10)
	must(t, "Bad", b.Bad(0, 1, true))
	must(t, "Write", super.Write(b, of(1, 7, 2)))
	wantRead(t, b, of(1, 7, 2), 1)
	must(t, "Bad", b.Bad(0, 1, false))
	wantRead(t, b, of(1, 7, 2), 0, 1)
}

// TestP6_2ThePowerGoes lets the power go at each write and flush, which shows their order.
func TestP6_2ThePowerGoes(t *testing.T) {
	r := with(active(10), removed(10), draining(10), active(10))
	members := []int{0, 2, 3}
	for _, gen := range []int{1, 2} {
		s := super.Super{Gen: gen, Root: 7, Roster: r}
		for n := range 2 * len(members) {
			b := banked(t, 10, 10, 10, 10)
			b.Arm(n)
			err := super.Write(b, s)
			written, flushed := min(n, len(members)), max(n-len(members), 0)
			if n < len(members) {
				wantFault(t, err, "write", members[n], gen%2, api.ErrDown)
			} else {
				wantFault(t, err, "flush", members[flushed], 0, api.ErrDown)
			}
			if b.Done() != n || !b.Down() || b.Pending() != written-flushed {
				t.Errorf("behind %d: Done, Down, Pending: %d, %t, %d", n, b.Done(), b.Down(), b.Pending())
			}
			wantFault(t, super.Write(b, s), "write", 0, gen%2, api.ErrDown)
			b.Crash()
			if flushed == 0 {
				wantNoRead(t, b, api.ErrNone)
			} else {
				wantRead(t, b, s, members[:flushed]...)
			}
		}
		b := banked(t, 10, 10, 10, 10)
		b.Arm(2 * len(members))
		must(t, "Write", super.Write(b, s))
		if b.Down() || b.Done() != 2*len(members) {
			t.Errorf("Down, Done: %t, %d", b.Down(), b.Done())
		}
	}
}

func TestP6_3OnNoSuchDevice(t *testing.T) {
	for _, b := range []*bank.Bank{bank.New(), banked(t, 10), banked(t, 10, 10, 10, 10, 10, 10, 10, 10)} {
		count := len(b.Sizes())
		if count > 0 {
			must(t, "Write", super.Write(b, of(1, 7, count)))
			wantOn(t, b, count-1, of(1, 7, count))
		}
		for _, device := range append(edges, count, count+1) {
			wantOn(t, b, device)
		}
	}
}

func TestP6_3OnADetachedDevice(t *testing.T) {
	b := banked(t, 10, 10)
	must(t, "Write", super.Write(b, of(1, 7, 2)))
	must(t, "Detach", b.Detach(0))
	wantOn(t, b, 0)
	wantOn(t, b, 1, of(1, 7, 2))
	wantRead(t, b, of(1, 7, 2), 1)
}

func TestP6_3OnASmallDevice(t *testing.T) {
	b := banked(t, 1, 2)
	wantOn(t, b, 0)
	wantOn(t, b, 1)
	lay(t, b, 0, 0, of(2, 7, 2))
	lay(t, b, 1, 0, of(2, 7, 2))
	lay(t, b, 1, 1, of(1, 7, 2))
	wantOn(t, b, 0, of(2, 7, 2))
	wantOn(t, b, 1, of(2, 7, 2), of(1, 7, 2))
	wantRead(t, b, of(2, 7, 2), 0, 1)
	lay(t, b, 0, 0, of(3, 7, 2))
	wantOn(t, b, 0)
}

func TestP6_3OnWithBadSectors(t *testing.T) {
	older, newer := of(3, 7, 1), of(4, 8, 1)
	for _, c := range []struct {
		bad  [2]bool
		want []super.Super
	}{
		{[2]bool{false, false}, []super.Super{newer, older}},
		{[2]bool{true, false}, []super.Super{older}},
		{[2]bool{false, true}, []super.Super{newer}},
		{[2]bool{true, true}, nil},
	} {
		b := banked(t, 10)
		must(t, "Write", super.Write(b, older))
		must(t, "Write", super.Write(b, newer))
		for sector, on := range c.bad {
			must(t, "Bad", b.Bad(0, sector, on))
		}
		wantOn(t, b, 0, c.want...)
		if c.want == nil {
			wantNoRead(t, b, api.ErrNone)
		} else {
			wantRead(t, b, c.want[0], 0)
		}
	}
}

func TestP6_3OnWithTheWrongSlot(t *testing.T) {
	for _, gen := range []int{1, 2, 3, 4, greatest - 1, greatest} {
		for sector := range 10 {
			b := banked(t, 10)
			s := of(gen, 7, 1)
			lay(t, b, 0, sector, s)
			if sector == gen%2 {
				wantOn(t, b, 0, s)
				wantRead(t, b, s, 0)
			} else {
				wantOn(t, b, 0)
				wantNoRead(t, b, api.ErrNone)
			}
		}
	}
}

func TestP6_3OnANoMember(t *testing.T) {
	for _, c := range []struct {
		r       roster.Roster
		members []int
	}{
		{with(active(10)), []int{0}},
		{with(removed(10), active(10)), []int{1}},
		{with(draining(10), removed(10)), []int{0}},
		{with(removed(10), removed(0), draining(10), active(3)), []int{2, 3}},
		{eight(), []int{0, 1, 3, 5, 6}},
	} {
		for gen := 1; gen <= 2; gen++ {
			s := super.Super{Gen: gen, Root: 7, Roster: c.r}
			b := banked(t, 10, 10, 10, 10, 10, 10, 10, 10)
			for device := range api.MaxDevices {
				lay(t, b, device, gen%2, s)
			}
			for device := range api.MaxDevices {
				if slices.Contains(c.members, device) {
					wantOn(t, b, device, s)
				} else {
					wantOn(t, b, device)
				}
			}
			wantRead(t, b, s, c.members...)
		}
	}
}

// TestP6_3SizesPlayNoPart has a roster that tells other sizes than the bank: what counts does not hang on them.
func TestP6_3SizesPlayNoPart(t *testing.T) {
	b := banked(t, 10, 4)
	s := super.Super{Gen: 1, Root: 7, Roster: with(active(4000), draining(3), active(9))}
	lay(t, b, 0, 1, s)
	lay(t, b, 1, 1, s)
	wantOn(t, b, 0, s)
	wantOn(t, b, 1, s)
	wantRead(t, b, s, 0, 1)
}

func TestP6_3OnWithTheSectorsBroken(t *testing.T) {
	b := banked(t, 10)
	good := of(2, 7, 1)
	must(t, "Write", super.Write(b, good))
	sector, err := of(3, 7, 1).Bytes()
	must(t, "Bytes", err)
	for i := range sector {
		broken := slices.Clone(sector)
		broken[i] ^= 64
		must(t, "Write", b.Write(0, 1, broken))
		wantOn(t, b, 0, good)
		wantRead(t, b, good, 0)
	}
	payload := slices.Concat(long(3), long(7), []byte{1, 1, 0, 10})
	must(t, "Write", b.Write(0, 1, framed(2, len(payload), payload)))
	wantOn(t, b, 0, good)
	must(t, "Write", b.Write(0, 1, framed(1, len(payload)+1, payload)))
	wantOn(t, b, 0, good)
	must(t, "Write", b.Write(0, 1, framed(1, len(payload), payload)))
	wantOn(t, b, 0, good, of(3, 7, 1))
}

func TestP6_3ThePowerIsDown(t *testing.T) {
	for _, b := range []*bank.Bank{banked(t, 10, 10), banked(t, 10)} {
		if len(b.Sizes()) == 2 {
			must(t, "Write", super.Write(b, of(1, 7, 2)))
		}
		b.Arm(0)
		wantFault(t, b.Flush(0), "flush", 0, 0, api.ErrDown)
		for _, device := range append(edges, 0, 1, 2) {
			wantOn(t, b, device)
		}
		wantNoRead(t, b, api.ErrDown)
	}
}

// TestP6_3ReadingDoesNothing asks an armed bank: reads are not counted, and change nothing.
func TestP6_3ReadingDoesNothing(t *testing.T) {
	b := banked(t, 10, 10)
	must(t, "Write", super.Write(b, of(1, 7, 2)))
	b.Arm(0)
	done, before := b.Done(), holds(t, b)
	for range 5 {
		wantRead(t, b, of(1, 7, 2), 0, 1)
		wantOn(t, b, 0, of(1, 7, 2))
	}
	if b.Down() || b.Done() != done || b.Pending() != 0 || !bytes.Equal(holds(t, b), before) {
		t.Error("reading did something")
	}
}

// TestP6_3WhatWaitsCounts asks for a superblock that is not flushed: it is what can be read.
func TestP6_3WhatWaitsCounts(t *testing.T) {
	b := banked(t, 10)
	sector, err := of(1, 7, 1).Bytes()
	must(t, "Bytes", err)
	must(t, "Write", b.Write(0, 1, sector))
	wantOn(t, b, 0, of(1, 7, 1))
	wantRead(t, b, of(1, 7, 1), 0)
	b.Crash()
	wantNoRead(t, b, api.ErrNone)
}

func TestP6_3ReadWithNothing(t *testing.T) {
	wantNoRead(t, bank.New(), api.ErrNone)
	wantNoRead(t, banked(t, 10), api.ErrNone)
	wantNoRead(t, banked(t, 1, 1, 1), api.ErrNone)
	b := banked(t, 10, 10)
	for device := range 2 {
		must(t, "Fill", b.Fill(device, []byte("anything")))
	}
	wantNoRead(t, b, api.ErrNone)
	must(t, "Detach", b.Detach(0))
	must(t, "Detach", b.Detach(1))
	wantNoRead(t, b, api.ErrNone)
}

func TestP6_3ReadOfSeveralGenerations(t *testing.T) {
	b := banked(t, 10, 10, 10, 10)
	lay(t, b, 0, 1, of(5, 5, 4))
	wantRead(t, b, of(5, 5, 4), 0)
	lay(t, b, 1, 0, of(4, 4, 4))
	wantRead(t, b, of(5, 5, 4), 0)
	lay(t, b, 2, 0, of(6, 6, 4))
	wantRead(t, b, of(6, 6, 4), 2)
	lay(t, b, 3, 1, of(7, 7, 4))
	lay(t, b, 3, 0, of(6, 6, 4))
	wantRead(t, b, of(7, 7, 4), 3)
	lay(t, b, 1, 1, of(7, 7, 4))
	wantRead(t, b, of(7, 7, 4), 1, 3)
	lay(t, b, 0, 0, of(greatest, 8, 4))
	wantRead(t, b, of(greatest, 8, 4), 0)
	lay(t, b, 2, 0, of(greatest, 8, 4))
	lay(t, b, 3, 1, of(greatest-1, 8, 4))
	wantRead(t, b, of(greatest, 8, 4), 0, 2)
	must(t, "Bad", b.Bad(0, 0, true))
	must(t, "Bad", b.Bad(2, 0, true))
	wantRead(t, b, of(greatest-1, 8, 4), 3)
}

// TestP6_3TheNewestNeedNotBeOnAllMembers has holders that are a part of the members, and members that have older ones.
func TestP6_3TheNewestNeedNotBeOnAllMembers(t *testing.T) {
	b := banked(t, 10, 10, 10, 10, 10, 10, 10, 10)
	must(t, "Write", super.Write(b, of(1, 7, 8)))
	wantRead(t, b, of(1, 7, 8), 0, 1, 2, 3, 4, 5, 6, 7)
	for _, device := range []int{6, 1, 4} {
		lay(t, b, device, 0, of(2, 8, 8))
	}
	wantRead(t, b, of(2, 8, 8), 1, 4, 6)
}

func TestP6_3ReadOfTwoOfTheSameGen(t *testing.T) {
	s := of(3, 7, 4)
	for _, o := range []super.Super{
		of(3, 8, 4), of(3, 0, 4), of(3, 7, 5),
		{Gen: 3, Root: 7, Roster: with(active(10), active(10), active(10), draining(10))},
		{Gen: 3, Root: 7, Roster: with(active(10), active(11), active(10), active(10))},
	} {
		b := banked(t, 10, 10, 10, 10)
		lay(t, b, 1, 1, s)
		lay(t, b, 2, 1, o)
		lay(t, b, 3, 1, s)
		lay(t, b, 0, 0, of(2, 7, 4))
		wantRead(t, b, s, 1, 3)
		lay(t, b, 0, 1, o)
		wantRead(t, b, o, 0, 2)
		must(t, "Detach", b.Detach(0))
		wantRead(t, b, s, 1, 3)
		must(t, "Bad", b.Bad(1, 1, true))
		wantRead(t, b, o, 2)
	}
}
