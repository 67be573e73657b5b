package pool

import (
	"cmp"
	"slices"

	"portage/api"
	"portage/bank"
	"portage/roster"
	"portage/super"
)

// promised is the generation from which on nothing is promised of a pool. beyond is one below it to which no pool comes that began with the first one, and that leaves enough for any life. Both are of the slot 0.
const (
	promised = 1 << 60
	beyond   = promised - 1<<40
)

// Format tells a new pool of all of the bank's devices.
func Format(b *bank.Bank) (*Pool, error) {
	if b.Down() {
		return nil, api.ErrDown
	}
	r, err := actives(b.Sizes())
	if err != nil {
		return nil, err
	}
	s := super.Super{Gen: 1, Roster: r}
	p, err := load(b, s)
	if err != nil {
		return nil, err
	}
	if err := replace(b, s); err != nil {
		return nil, err
	}
	return p, nil
}

// actives tells the roster of devices of these sizes, all of them Active. There must be one.
func actives(sizes []int) (roster.Roster, error) {
	if len(sizes) == 0 {
		return roster.Roster{}, api.ErrRange
	}
	var r roster.Roster
	for _, size := range sizes {
		next, _, err := r.Add(size)
		if err != nil {
			return roster.Roster{}, err
		}
		r = next
	}
	return r, nil
}

// replace lets a superblock count in place of all that earlier pools left, though these may be of greater generations. Wherever the power goes, what counts is the newest one, which stands as it was till nothing older is left, or the new one. As long as the earlier one does, the new one is just on devices that it has as members: their next commit takes its place, on others it would stay.
func replace(b *bank.Bank, s super.Super) error {
	all, err := outlast(b, s, remains(b))
	if err != nil {
		return err
	}
	slot := slotOf(s.Gen)
	ahead, first := begin(b, s, all)
	if err := wipe(b, ahead); err != nil {
		return err
	}
	if err := lay(b, s, first); err != nil {
		return err
	}
	var beside, behind []place
	for _, at := range all[len(ahead):] {
		switch {
		case at.slot != slot:
			behind = append(behind, at)
		case !slices.Contains(first, at.device):
			beside = append(beside, at)
		}
	}
	if err := wipe(b, slices.Concat(beside, behind)); err != nil {
		return err
	}
	return lay(b, s, without(s.Roster.Members(), first))
}

// outlast lets the new pool count at one write, if there are sectors that can't be read: nobody knows what stands there, and in which order it would have to go. So the new pool is laid over one of the remains, with a generation above all of them, and then the others go: those of its slot first, since one of them that is opened while it can't be read is written there, too. It tells what remains.
func outlast(b *bank.Bank, s super.Super, all []place) ([]place, error) {
	if len(all) == 0 || all[0].gen > 0 {
		return all, nil
	}
	at := over(all)
	s.Gen = above(b, at)
	if err := lay(b, s, []int{at.device}); err != nil {
		return nil, err
	}
	others := without(all, []place{at})
	isElsewhere := func(o place) bool { return o.slot != at.slot }
	beside := slices.DeleteFunc(slices.Clone(others), isElsewhere)
	if err := wipe(b, slices.Concat(beside, without(others, beside))); err != nil {
		return nil, err
	}
	return []place{{at.device, at.slot, s.Gen}}, nil
}

// over tells over which of the remains a new pool is laid: the newest one that was read, for its device is a member of the earlier pool, whose next commit takes the place of what is there. If none was, the last device is the likeliest one that was not left.
func over(all []place) place {
	if last := all[len(all)-1]; last.gen > 0 {
		return last
	}
	return all[0]
}

// above tells a generation for a place that is above all that may stand where nothing can be read. That may be one that was committed behind the newest one that was read, and one more that was cut; or, if nothing was read, of a pool that began with such a generation itself: then it made two writes and flushes at least for each one since.
func above(b *bank.Bank, at place) int {
	next := min(at.gen+2*api.Slots, promised-api.Slots+at.slot)
	return max(next, beyond+api.Slots*b.Done()+at.slot)
}

// begin tells which remains, in their order, are wiped ahead of all else, and on which devices a superblock is laid first. Laid over the newest one, if that is greater, it ends it: then nothing else may be left. If not, the newest one outlasts it in the other slot; or it is of the generation that is laid, of which the first device's counts, old or new.
func begin(b *bank.Bank, s super.Super, all []place) (ahead []place, first []int) {
	slot, devices := slotOf(s.Gen), s.Roster.Members()
	newest, _, err := super.Read(b)
	if err != nil {
		return nil, devices
	}
	if last := len(all) - 1; newest.Gen > s.Gen && slotOf(newest.Gen) == slot {
		return all[:last], []int{all[last].device}
	}
	isNone := func(device int) bool { return !slices.Contains(devices, device) }
	return nil, slices.DeleteFunc(newest.Roster.Members(), isNone)
}

// remains tells where superblocks count, the one that layer 6 reads as the last of them, and ahead of these where one may count as soon as the sector can be read again.
func remains(b *bank.Bank) []place {
	all := unread(b)
	for device := range b.Sizes() {
		for _, s := range super.On(b, device) {
			all = append(all, place{device, slotOf(s.Gen), s.Gen})
		}
	}
	// Of several of one generation layer 6 reads the first device's.
	slices.SortStableFunc(all, func(x, y place) int {
		return cmp.Or(cmp.Compare(x.gen, y.gen), cmp.Compare(y.device, x.device))
	})
	return all
}
