package pool

import (
	"cmp"
	"slices"

	"portage/api"
	"portage/bank"
	"portage/roster"
	"portage/super"
)

// place is a sector for superblocks, with the generation of the one that counts there, 0 if the sector cannot be read.
type place struct{ device, slot, gen int }

// Format tells a new pool of all of the bank's devices.
func Format(b *bank.Bank) (*Pool, error) {
	if b.Down() {
		return nil, api.ErrDown
	}
	r, err := actives(b.Sizes())
	if err != nil {
		return nil, err
	}
	s := super.Super{Gen: 1, Roster: r}
	p, err := load(b, s)
	if err != nil {
		return nil, err
	}
	if err := replace(b, s); err != nil {
		return nil, err
	}
	return p, nil
}

// actives tells the roster of devices of these sizes, all of them Active. There must be one.
func actives(sizes []int) (roster.Roster, error) {
	if len(sizes) == 0 {
		return roster.Roster{}, api.ErrRange
	}
	var r roster.Roster
	for _, size := range sizes {
		next, _, err := r.Add(size)
		if err != nil {
			return roster.Roster{}, err
		}
		r = next
	}
	return r, nil
}

// replace lets a superblock count in place of all that earlier pools left, though these may be of greater generations. Wherever the power goes, what counts is the newest one that was read, which stands as it was till nothing older is left, or the new one.
func replace(b *bank.Bank, s super.Super) error {
	ahead, behind := around(s, remains(b))
	if err := wipe(b, ahead); err != nil {
		return err
	}
	if err := super.Write(b, s); err != nil {
		return err
	}
	return wipe(b, behind)
}

// around tells which remains, in their order, are wiped ahead of a superblock's Write, and which behind it. The Write takes the place of all in its own slot. If the newest one is there, and is greater, the Write ends it: then nothing older may be left. Else the newest one outlasts the Write in the other slot, as does what could not be read there and may be newer; or it is of the generation that is written, of which the first device's counts, old or new.
func around(s super.Super, all []place) (ahead, behind []place) {
	slot := s.Gen % api.Slots
	if last := len(all) - 1; last >= 0 && all[last].slot == slot && all[last].gen > s.Gen {
		return all[:last], nil
	}
	return nil, slices.DeleteFunc(all, func(at place) bool { return at.slot == slot })
}

// remains tells where superblocks count, the one that layer 6 reads as the last of them, and ahead of these where one may count as soon as the sector can be read again.
func remains(b *bank.Bank) []place {
	var all []place
	for device := range b.Sizes() {
		for slot := range api.Slots {
			if _, err := b.Read(device, slot); err != nil {
				all = append(all, place{device: device, slot: slot})
			}
		}
		for _, s := range super.On(b, device) {
			all = append(all, place{device, s.Gen % api.Slots, s.Gen})
		}
	}
	// Of several of one generation layer 6 reads the first device's.
	slices.SortStableFunc(all, func(x, y place) int {
		return cmp.Or(cmp.Compare(x.gen, y.gen), cmp.Compare(y.device, x.device))
	})
	return all
}

// wipe lets nothing count in sectors, one after the other: each is so for good ahead of the next one. What cannot be read can be written.
func wipe(b *bank.Bank, places []place) error {
	for _, at := range places {
		if err := b.Write(at.device, at.slot, make([]byte, api.Sector)); err != nil {
			return err
		}
		if err := b.Flush(at.device); err != nil {
			return err
		}
	}
	return nil
}
