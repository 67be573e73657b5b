package super_test

import (
	"bytes"
	"encoding/binary"
	"hash/crc32"
	"slices"
	"testing"

	"portage/api"
	"portage/bank"
	"portage/roster"
	"portage/super"
)

// numbers tells numbers in an order that is always the same, and looks like none.
type numbers uint64

func (n *numbers) below(limit int) int {
	*n = *n*6364136223846793005 + 1442695040888963407
	return int(uint64(*n)>>33) % limit
}

// roster tells a right one with a member, whose devices have at least so many sectors.
func (n *numbers) roster(least int) roster.Roster {
	var r roster.Roster
	for range 1 + n.below(api.MaxDevices) {
		r.List = append(r.List, roster.Entry{State: 1 + n.below(3), Size: least + n.below(20)})
	}
	r.List[n.below(len(r.List))].State = api.Active + n.below(2)
	return r
}

// isRight is the chapter's sentence about superblocks, and that of layer 5 about rosters.
func isRight(s super.Super) bool {
	members := 0
	for _, e := range s.Roster.List {
		if e.State < api.Active || e.State > api.Removed || e.Size < 0 || e.Size > api.MaxSectors {
			return false
		}
		if e.State != api.Removed && e.Size <= api.Slots {
			return false
		}
		if e.State != api.Removed {
			members++
		}
	}
	return s.Gen >= 1 && s.Gen <= greatest && s.Root >= 0 && s.Root <= greatest && len(s.Roster.List) <= api.MaxDevices && members > 0
}

// encoded is the sector of a superblock as the chapter puts it, right or not, as far as its numbers fit.
func encoded(s super.Super) []byte {
	devices := []byte{byte(len(s.Roster.List))}
	for _, e := range s.Roster.List {
		devices = append(devices, byte(e.State), byte(e.Size>>8), byte(e.Size))
	}
	return standing(uint64(s.Gen), uint64(s.Root), devices...)
}

// decoded is the superblock that stands in a sector: what is read from it is right, and its bytes are these.
func decoded(sector []byte) (super.Super, bool) {
	if len(sector) != api.Sector || binary.BigEndian.Uint32(sector[124:]) != crc32.ChecksumIEEE(sector[:124]) {
		return super.Super{}, false
	}
	s := super.Super{Gen: int(binary.BigEndian.Uint64(sector[2:])), Root: int(binary.BigEndian.Uint64(sector[10:]))}
	for i := range min(int(sector[18]), 20) {
		at := 19 + 3*i
		s.Roster.List = append(s.Roster.List, roster.Entry{State: int(sector[at]), Size: int(sector[at+1])<<8 + int(sector[at+2])})
	}
	if !isRight(s) || !bytes.Equal(encoded(s), sector) {
		return super.Super{}, false
	}
	return s, true
}

// counting is what the chapter says counts on a device.
func counting(b *bank.Bank, device int) []super.Super {
	var all []super.Super
	for sector := range 2 {
		data, err := b.Read(device, sector)
		if err != nil {
			continue
		}
		s, ok := decoded(data)
		if ok && s.Gen%2 == sector && device < len(s.Roster.List) && s.Roster.List[device].State != api.Removed {
			all = append(all, s)
		}
	}
	return all
}

// wantAsCounted demands that On and Read tell what the chapter's words say of a bank whose power is up.
func wantAsCounted(t *testing.T, b *bank.Bank) {
	t.Helper()
	var best super.Super
	for device := range api.MaxDevices + 1 {
		all := counting(b, device)
		wantOn(t, b, device, all...)
		for _, s := range all {
			if s.Gen > best.Gen {
				best = s
			}
		}
	}
	var holders []int
	for device := range api.MaxDevices {
		if slices.ContainsFunc(counting(b, device), func(s super.Super) bool { return equal(s, best) }) {
			holders = append(holders, device)
		}
	}
	if best.Gen == 0 {
		wantNoRead(t, b, api.ErrNone)
	} else {
		wantRead(t, b, best, holders...)
	}
}

// anySuper is a superblock of few numbers, so that some are equal and some are nearly so; some are not right.
func (n *numbers) anySuper() super.Super {
	s := super.Super{Gen: 1 + n.below(6), Root: n.below(2), Roster: full()}
	switch n.below(8) {
	case 0:
		s.Roster = n.roster(3)
	case 1:
		s.Roster.List[n.below(api.MaxDevices)].State = n.below(5)
	case 2:
		s.Roster.List = s.Roster.List[:n.below(api.MaxDevices+1)]
	case 3:
		s.Gen = []int{0, greatest, greatest + 1, greatest - 1}[n.below(4)]
	case 4:
		s.Root = []int{0, greatest, greatest + 1, greatest - 1}[n.below(4)]
	}
	return s
}

// anySector is a sector with a superblock, or with what is left of one.
func (n *numbers) anySector() []byte {
	sector := encoded(n.anySuper())
	switch n.below(12) {
	case 0:
		sector[n.below(api.Sector)]++
	case 1:
		return make([]byte, api.Sector)
	case 2:
		return framed(byte(n.below(3)), n.below(api.Payload+3), sector[2:124])
	case 3:
		return framed(1, int(sector[1])+n.below(3)-1, sector[2:124])
	}
	return sector
}

// TestP6Parse holds what Parse tells of many sectors against the chapter's words.
func TestP6Parse(t *testing.T) {
	next, right := numbers(1), 0
	for range 100000 {
		sector := next.anySector()
		s, err := super.Parse(sector)
		want, ok := decoded(sector)
		if (err == nil) != ok || !equal(s, want) || !ok && err != error(api.ErrForm) {
			t.Fatalf("Parse of %x: %v, %v, not %v", sector, s, err, want)
		}
		if ok {
			right++
		}
		if again, err := s.Bytes(); ok && (err != nil || !bytes.Equal(again, sector)) {
			t.Fatalf("Bytes of %v: %x, %v", s, again, err)
		}
	}
	if right < 20000 || right > 90000 {
		t.Errorf("%d were right", right)
	}
}

// TestP6Small holds what superblocks tell of themselves against the chapter's words, and each against each.
func TestP6Small(t *testing.T) {
	next := numbers(2)
	var all []super.Super
	for range 400 {
		all = append(all, next.anySuper())
	}
	for _, s := range append(all, notRight()...) {
		if (s.Check() == nil) != isRight(s) {
			t.Fatalf("Check of %v: %v", s, s.Check())
		}
		if got, err := s.Bytes(); (err == nil) != isRight(s) || err == nil && !bytes.Equal(got, encoded(s)) {
			t.Fatalf("Bytes of %v: %x, %v", s, got, err)
		}
		for _, o := range all {
			if s.Same(o) != (isRight(s) && isRight(o) && equal(s, o)) {
				t.Fatalf("%v is the same as %v: %t", s, o, s.Same(o))
			}
		}
	}
}

// TestP6Long lets anything happen to banks, and holds what counts there against the chapter's words behind each of it.
func TestP6Long(t *testing.T) {
	for run := range 200 {
		next := numbers(run)
		b := bank.New()
		for range 60 {
			device, sector := next.below(api.MaxDevices), next.below(3)
			switch next.below(12) {
			case 0, 1:
				b.Add(1 + next.below(4))
			case 2:
				b.Bad(device, sector, next.below(3) == 0)
			case 3:
				b.Crash(next.below(3), next.below(3), next.below(3), next.below(3))
			case 4:
				super.Write(b, next.anySuper())
			case 5:
				if next.below(8) == 0 {
					b.Detach(device)
				}
			case 6:
				b.Fill(device, next.anySector())
			default:
				b.Write(device, sector, next.anySector())
			}
			wantAsCounted(t, b)
			if t.Failed() {
				t.FailNow()
			}
		}
	}
}
