package pool

import (
	"cmp"
	"slices"

	"portage/api"
	"portage/bank"
	"portage/roster"
	"portage/super"
	"portage/thin"
)

// Format tells a new pool of all of the bank's devices.
func Format(b *bank.Bank) (*Pool, error) {
	if b.Down() {
		return nil, api.ErrDown
	}
	r, err := actives(b.Sizes())
	if err != nil {
		return nil, err
	}
	s := super.Super{Gen: 1, Roster: r}
	p, err := load(b, s)
	if err != nil {
		return nil, err
	}
	if err := forget(b); err != nil {
		return nil, err
	}
	if err := super.Write(b, s); err != nil {
		return nil, err
	}
	return p, nil
}

// Open tells the pool that stands on the bank's devices. Nothing is written ahead of all that may be refused.
func Open(b *bank.Bank) (*Pool, error) {
	s, holders, err := super.Read(b)
	if err != nil {
		return nil, err
	}
	if !hasAll(b.Sizes(), s.Roster) {
		return nil, api.ErrGone
	}
	p, err := load(b, s)
	if err != nil {
		return nil, err
	}
	if !slices.Equal(holders, s.Roster.Members()) {
		if err := super.Write(b, s); err != nil {
			return nil, err
		}
	}
	return p, nil
}

// load tells the pool of a superblock.
func load(b *bank.Bank, s super.Super) (*Pool, error) {
	m, err := thin.Load(b, s.Roster, s.Root)
	if err != nil {
		return nil, err
	}
	p := &Pool{bank: b, manager: m, gen: s.Gen}
	p.follow()
	return p, nil
}

// actives tells the roster of devices of these sizes, all of them Active. There must be one.
func actives(sizes []int) (roster.Roster, error) {
	if len(sizes) == 0 {
		return roster.Roster{}, api.ErrRange
	}
	var r roster.Roster
	for _, size := range sizes {
		next, _, err := r.Add(size)
		if err != nil {
			return roster.Roster{}, err
		}
		r = next
	}
	return r, nil
}

// hasAll tells whether all members of a roster are there, as great as it says.
func hasAll(sizes []int, r roster.Roster) bool {
	for _, device := range r.Members() {
		if device >= len(sizes) || sizes[device] < r.List[device].Size {
			return false
		}
	}
	return true
}

// forget lets nothing count that an earlier pool left: its generations may be greater than the first one. The least goes first, so that wherever the power goes the earlier pool is as it was, or there is none.
func forget(b *bank.Bank) error {
	type place struct{ gen, device int }
	var places []place
	for device := range b.Sizes() {
		for _, s := range super.On(b, device) {
			places = append(places, place{s.Gen, device})
		}
	}
	slices.SortFunc(places, func(x, y place) int { return cmp.Compare(x.gen, y.gen) })
	for _, at := range places {
		if err := b.Write(at.device, at.gen%api.Slots, make([]byte, api.Sector)); err != nil {
			return err
		}
		if err := b.Flush(at.device); err != nil {
			return err
		}
	}
	return nil
}
