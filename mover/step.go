package mover

import (
	"errors"

	"portage/api"
	"portage/dirty"
	"portage/plan"
	"portage/space"
)

// none is no device's number: just addresses are swapped then, and pages stay where they are unless they name those.
const none = -1

// Step does the first thing that can be done for the device to be left, and tells what it did.
func (v *Mover) Step() (int, error) {
	e, isOpen := v.log.Next()
	switch {
	case isOpen && e.State == dirty.Planned:
		return did(Read, v.read(e))
	case isOpen:
		return did(Wrote, v.write(e))
	case len(v.log.List()) > 0:
		return did(Swapped, v.swap())
	}
	return v.begin()
}

// begin goes on where no region is being copied.
func (v *Mover) begin() (int, error) {
	addrs, err := plan.First(v.device, v.manager.Data()...)
	switch {
	case err != nil:
		return 0, err
	case len(addrs) > 0:
		return did(Planned, v.plan(addrs))
	case v.count(v.manager.Pages()) > 0:
		return did(Moved, v.manager.Swap(v.device, nil, nil))
	}
	return Empty, nil
}

// plan lets a region be copied from now on.
func (v *Mover) plan(addrs []int) error {
	to, err := v.take(len(addrs))
	if err != nil {
		return err
	}
	for i, from := range addrs {
		// The log has no entries, and no two of these addresses are one, so that none is refused.
		v.log.Add(from, to[i])
	}
	return nil
}

// take tells so many addresses that were free, and are taken now: all of them, or none.
func (v *Mover) take(count int) ([]int, error) {
	var addrs []int
	for range count {
		addr, err := v.manager.Space().Take()
		if err != nil {
			v.give(addrs...)
			return nil, noRoom(err)
		}
		addrs = append(addrs, addr)
	}
	return addrs, nil
}

// read reads what an entry is to copy.
func (v *Mover) read(e dirty.Entry) error {
	data, err := v.bank.Read(space.At(e.From))
	if err != nil {
		return err
	}
	v.got = data
	return v.log.Turn(e.From, dirty.Read)
}

// write writes what was read of an entry.
func (v *Mover) write(e dirty.Entry) error {
	if err := v.lay(e.To, v.got); err != nil {
		return err
	}
	v.got = nil
	return v.log.Turn(e.From, dirty.Copied)
}

// swap lets all owners of the region's blocks go over to the copies.
func (v *Mover) swap() error {
	var from, to []int
	for _, e := range v.log.List() {
		if err := v.catchUp(e); err != nil {
			return err
		}
		from, to = append(from, e.From), append(to, e.To)
	}
	if err := v.manager.Swap(none, from, to); err != nil {
		return err
	}
	v.log.Clear()
	return nil
}

// catchUp copies an entry once more whose copy missed a write: owners that went over to it would have what is older.
func (v *Mover) catchUp(e dirty.Entry) error {
	if _, isLate := v.late[e.From]; !isLate {
		return nil
	}
	data, err := v.bank.Read(space.At(e.From))
	if err != nil {
		return err
	}
	if err := v.lay(e.To, data); err != nil {
		return err
	}
	delete(v.late, e.From)
	return nil
}

// noRoom tells the space's want of room apart from what else it may refuse: a region that can't be planned is another thing than a call on volumes that is refused.
func noRoom(err error) error {
	if errors.Is(err, api.ErrFull) {
		return api.ErrSpace
	}
	return err
}

// did tells what a step did, or beside an error nothing.
func did(what int, err error) (int, error) {
	if err != nil {
		return 0, err
	}
	return what, nil
}
