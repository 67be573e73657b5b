package pool

import (
	"slices"

	"portage/api"
	"portage/bank"
	"portage/roster"
	"portage/super"
)

// place is a sector for superblocks, with the generation of the one that counts there, 0 if the sector cannot be read.
type place struct{ device, slot, gen int }

// slotOf tells the sector in which a superblock of a generation stands on each member.
func slotOf(gen int) int { return gen % api.Slots }

// unread tells which sectors for superblocks cannot be read: one may count there as soon as they can.
func unread(b *bank.Bank) []place {
	var all []place
	for device, size := range b.Sizes() {
		for slot := range min(size, api.Slots) {
			if _, err := b.Read(device, slot); err != nil {
				all = append(all, place{device: device, slot: slot})
			}
		}
	}
	return all
}

// wipe lets nothing count in sectors, one after the other: each is so for good ahead of the next one. What cannot be read can be written; what is detached has nothing.
func wipe(b *bank.Bank, places []place) error {
	sizes := b.Sizes()
	for _, at := range places {
		if sizes[at.device] == 0 {
			continue
		}
		if err := b.Write(at.device, at.slot, make([]byte, api.Sector)); err != nil {
			return err
		}
		if err := b.Flush(at.device); err != nil {
			return err
		}
	}
	return nil
}

// lay writes a superblock on some of its members, and makes it last there.
func lay(b *bank.Bank, s super.Super, devices []int) error {
	sector, err := s.Bytes()
	if err != nil {
		return err
	}
	for _, device := range devices {
		if err := b.Write(device, slotOf(s.Gen), sector); err != nil {
			return err
		}
	}
	return b.Flush(devices...)
}

// renew writes a superblock once more on all members. On those that are Draining it comes last: a superblock of the same generation may say on others that they are Removed (see release), and then it must not be there beside that.
func renew(b *bank.Bank, s super.Super) error {
	actives := s.Roster.Actives()
	if err := lay(b, s, actives); err != nil {
		return err
	}
	return lay(b, s, without(s.Roster.Members(), actives))
}

// release lets no superblock anywhere have a device as a member that is none any more in the next roster. It comes ahead of the superblock that says so, which could be lost from sight later: then one that has the device as a member would count again. The one that counts stays where it is, and is alone, till one of the same generation stands in its place that says that the device is Removed: so what counts has the device as a member, or nothing that is left has.
func (p *Pool) release(next roster.Roster) error {
	others := next.Members()
	gone := without(p.last.Roster.Members(), others)
	if len(gone) == 0 {
		return nil
	}
	var older []place
	for slot := range api.Slots {
		for _, device := range gone {
			older = append(older, place{device: device, slot: slot})
		}
		for _, device := range others {
			if slot != slotOf(p.last.Gen) {
				older = append(older, place{device: device, slot: slot})
			}
		}
	}
	if err := wipe(p.bank, older); err != nil {
		return err
	}
	return super.Write(p.bank, super.Super{Gen: p.last.Gen, Root: p.last.Root, Roster: next})
}

// without tells those of a list that are none of the others.
func without[T comparable](list, others []T) []T {
	return slices.DeleteFunc(slices.Clone(list), func(one T) bool { return slices.Contains(others, one) })
}
