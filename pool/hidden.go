package pool

import (
	"slices"

	"portage/api"
	"portage/bank"
	"portage/super"
)

// hidden tells in which sectors a superblock may stand that could not be read when one was opened, and is newer. Where that one stands itself nothing else does, since Open wrote it once more; on a device that is Removed there is none.
func hidden(b *bank.Bank, s super.Super) []place {
	members := s.Roster.Members()
	return slices.DeleteFunc(unread(b), func(at place) bool {
		isOwn := at.slot == slotOf(s.Gen) && slices.Contains(members, at.device)
		return isOwn || s.Roster.State(at.device) == api.Removed
	})
}

// hide lets a pool that was just opened have a double, if anything is hidden from it: what a call needs shows only where it is made.
func (p *Pool) hide() error {
	p.hidden = hidden(p.bank, p.last)
	if len(p.hidden) == 0 {
		return nil
	}
	b := bank.New()
	if err := copied(b, p.bank); err != nil {
		return err
	}
	double, err := load(b, p.last)
	p.double = double
	return err
}

// rehearse makes a call on the double, if there is one. What is hidden may be what was acknowledged last, and what it names may lie wherever something is free. So a call that is refused must be refused ahead of its first write; and only ahead of a call that is done, and writes, what is hidden is wiped, for it must not count behind that any more.
func (p *Pool) rehearse(call func(*Pool) error) error {
	if p.double == nil {
		return nil
	}
	if err := copied(p.double.bank, p.bank); err != nil {
		return err
	}
	done := p.double.bank.Done()
	if err := call(p.double); err != nil || p.double.bank.Done() == done {
		return err
	}
	if err := wipe(p.bank, p.hidden); err != nil {
		return err
	}
	p.hidden, p.double = nil, nil
	return nil
}

// copied lets a bank be as another one is now: as many devices, as great ones, with the same bytes in all that can be read, and the same sectors bad. It may have been so earlier.
func copied(to, from *bank.Bank) error {
	for device, size := range from.Sizes() {
		if err := resized(to, device, size); err != nil {
			return err
		}
		if size == 0 {
			continue
		}
		if err := filled(to, from, device, size); err != nil {
			return err
		}
	}
	return nil
}

// resized lets a bank's device, or the one that it has next, be of a size that is not smaller, or be detached if that is 0.
func resized(b *bank.Bank, device, size int) error {
	if device == len(b.Sizes()) {
		if _, err := b.Add(max(size, 1)); err != nil {
			return err
		}
	}
	switch has := b.Sizes()[device]; {
	case has == size:
		return nil
	case size == 0:
		return b.Detach(device)
	default:
		return b.Grow(device, size-has)
	}
}

// filled lets a bank's device have what another bank's has, and be bad where that is.
func filled(to, from *bank.Bank, device, size int) error {
	var bad []int
	data := make([]byte, 0, size*api.Sector)
	for sector := range size {
		one, err := from.Read(device, sector)
		if err != nil {
			one = make([]byte, api.Sector)
			bad = append(bad, sector)
		}
		data = append(data, one...)
	}
	if err := to.Fill(device, data); err != nil {
		return err
	}
	for _, sector := range bad {
		if err := to.Bad(device, sector, true); err != nil {
			return err
		}
	}
	return nil
}
