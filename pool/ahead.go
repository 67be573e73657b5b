package pool

import (
	"slices"

	"portage/api"
	"portage/bank"
	"portage/super"
)

// hidden tells in which sectors a superblock may stand that could not be read when one was opened, and is newer. Where that one stands itself nothing else does, since Open wrote it once more; on a device that is Removed there is none.
func hidden(b *bank.Bank, s super.Super) []place {
	members := s.Roster.Members()
	return slices.DeleteFunc(unread(b), func(at place) bool {
		isOwn := at.slot == slotOf(s.Gen) && slices.Contains(members, at.device)
		return isOwn || s.Roster.State(at.device) == api.Removed
	})
}

// ahead lets nothing count in what was hidden, if a call comes to write: what it writes may lie on what is named there. As long as nothing is written it may be what was acknowledged last, and stays.
func (p *Pool) ahead(writes func() bool) error {
	if len(p.hidden) == 0 || !writes() {
		return nil
	}
	if err := wipe(p.bank, p.hidden); err != nil {
		return err
	}
	p.hidden = nil
	return nil
}

// always says that a call comes to write.
func always() bool { return true }

// hasRoom tells whether anything is free. Where nothing is, what needs room is refused ahead of its first write.
func (p *Pool) hasRoom() bool { return p.manager.Space().Free() > 0 }

// hasBlocks tells whether there is a volume that has so many blocks, one at least, from one on.
func (p *Pool) hasBlocks(id, block, count int) bool {
	for _, v := range p.manager.List() {
		if v.Id == id {
			return count >= 1 && block >= 0 && block <= v.Size-count
		}
	}
	return false
}

// takes tells whether a Write comes to write: nothing is wrong with what it is told, and there is room for the blocks that can't stay where they are.
func (p *Pool) takes(id, block int, data []byte) bool {
	count := len(data) / api.Sector
	if len(data)%api.Sector != 0 || count > api.MaxRun || !p.hasBlocks(id, block, count) {
		return false
	}
	moves := 0
	for _, addr := range p.places(id, block, count) {
		if len(p.manager.Owners(addr)) != 1 {
			moves++
		}
	}
	return moves <= p.manager.Space().Free()
}

// unmaps tells whether a Discard comes to change something: nothing is wrong with what it is told, and some of the blocks are mapped.
func (p *Pool) unmaps(id, block, count int) bool {
	if !p.hasBlocks(id, block, count) {
		return false
	}
	for _, addr := range p.manager.Data() {
		for _, o := range p.manager.Owners(addr) {
			if o.Vol == id && o.Block >= block && o.Block < block+count {
				return true
			}
		}
	}
	return false
}

// resizes tells whether a Resize comes to write: nothing is wrong with what it is told, and there is room for pages.
func (p *Pool) resizes(id, size int) bool {
	return size >= 1 && size <= api.MaxBlocks && p.hasBlocks(id, 0, 1) && p.hasRoom()
}

// moves tells whether the mover's next step comes to write: something was read, or no block is on the device any more and there is room for the pages that are.
func (p *Pool) moves() bool {
	for _, e := range p.mover.Region() {
		// What is not as it was planned was read: a copy was written, and then nothing is hidden any more.
		if e.State > 0 {
			return true
		}
	}
	data, pages := p.mover.Left()
	return data == 0 && pages > 0 && p.hasRoom()
}
