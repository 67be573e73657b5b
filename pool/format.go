package pool

import (
	"cmp"
	"slices"

	"portage/api"
	"portage/bank"
	"portage/roster"
	"portage/super"
)

// Format tells a new pool of all of the bank's devices.
func Format(b *bank.Bank) (*Pool, error) {
	if b.Down() {
		return nil, api.ErrDown
	}
	r, err := actives(b.Sizes())
	if err != nil {
		return nil, err
	}
	s := super.Super{Gen: 1, Roster: r}
	p, err := load(b, s)
	if err != nil {
		return nil, err
	}
	if err := replace(b, s); err != nil {
		return nil, err
	}
	return p, nil
}

// actives tells the roster of devices of these sizes, all of them Active. There must be one.
func actives(sizes []int) (roster.Roster, error) {
	if len(sizes) == 0 {
		return roster.Roster{}, api.ErrRange
	}
	var r roster.Roster
	for _, size := range sizes {
		next, _, err := r.Add(size)
		if err != nil {
			return roster.Roster{}, err
		}
		r = next
	}
	return r, nil
}

// replace lets a superblock count in place of all that earlier pools left, though these may be of greater generations. Wherever the power goes, what counts is the newest one that was read, which stands as it was till nothing older is left, or the new one. As long as the earlier one does, the new one is just on devices that it has as members, if it can be read there: their next commit takes its place, on others it would stay.
func replace(b *bank.Bank, s super.Super) error {
	all, slot := remains(b), slotOf(s.Gen)
	ahead, first := begin(b, s, all)
	if err := wipe(b, ahead); err != nil {
		return err
	}
	if err := lay(b, s, first); err != nil {
		return err
	}
	var beside, behind []place
	for _, at := range all[len(ahead):] {
		switch {
		case at.slot != slot:
			behind = append(behind, at)
		case !slices.Contains(first, at.device):
			beside = append(beside, at)
		}
	}
	if err := wipe(b, slices.Concat(beside, behind)); err != nil {
		return err
	}
	return lay(b, s, without(s.Roster.Members(), first))
}

// begin tells which remains, in their order, are wiped ahead of all else, and on which devices a superblock is laid first. Laid over the newest one, if that is greater, it ends it: then nothing else may be left. If not, the newest one outlasts it in the other slot, as does what could not be read there and may be newer; or it is of the generation that is laid, of which the first device's counts, old or new.
func begin(b *bank.Bank, s super.Super, all []place) (ahead []place, first []int) {
	slot, devices := slotOf(s.Gen), s.Roster.Members()
	newest, _, err := super.Read(b)
	if err != nil {
		return nil, devices
	}
	if last := len(all) - 1; newest.Gen > s.Gen && slotOf(newest.Gen) == slot {
		return all[:last], []int{all[last].device}
	}
	isNone := func(device int) bool { return !slices.Contains(devices, device) }
	isUnread := func(device int) bool { return slices.Contains(all, place{device: device, slot: slot}) }
	members := slices.DeleteFunc(newest.Roster.Members(), isNone)
	if len(slices.DeleteFunc(slices.Clone(members), isUnread)) == 0 {
		return nil, devices
	}
	return nil, members
}

// remains tells where superblocks count, the one that layer 6 reads as the last of them, and ahead of these where one may count as soon as the sector can be read again.
func remains(b *bank.Bank) []place {
	all := unread(b)
	for device := range b.Sizes() {
		for _, s := range super.On(b, device) {
			all = append(all, place{device, slotOf(s.Gen), s.Gen})
		}
	}
	// Of several of one generation layer 6 reads the first device's.
	slices.SortStableFunc(all, func(x, y place) int {
		return cmp.Or(cmp.Compare(x.gen, y.gen), cmp.Compare(y.device, x.device))
	})
	return all
}
