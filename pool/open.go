package pool

import (
	"slices"

	"portage/api"
	"portage/bank"
	"portage/roster"
	"portage/super"
	"portage/thin"
)

// Open tells the pool that stands on the bank's devices. Nothing is written ahead of all that may be refused.
func Open(b *bank.Bank) (*Pool, error) {
	s, holders, err := super.Read(b)
	if err != nil {
		return nil, err
	}
	if !hasAll(b.Sizes(), s.Roster) {
		return nil, api.ErrGone
	}
	p, err := load(b, s)
	if err != nil {
		return nil, err
	}
	if !slices.Equal(holders, s.Roster.Members()) {
		if err := renew(b, s); err != nil {
			return nil, err
		}
	}
	if err := p.hide(); err != nil {
		return nil, err
	}
	return p, nil
}

// load tells the pool of a superblock.
func load(b *bank.Bank, s super.Super) (*Pool, error) {
	m, err := thin.Load(b, s.Roster, s.Root)
	if err != nil {
		return nil, err
	}
	p := &Pool{bank: b, manager: m, last: s}
	p.follow()
	return p, nil
}

// hasAll tells whether all members of a roster are there, as great as it says.
func hasAll(sizes []int, r roster.Roster) bool {
	for _, device := range r.Members() {
		if device >= len(sizes) || sizes[device] < r.List[device].Size {
			return false
		}
	}
	return true
}
