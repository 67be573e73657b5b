package pool

import (
	"portage/api"
	"portage/mover"
	"portage/roster"
	"portage/thin"
)

// Add lets the pool have one device more, the bank's next one.
func (p *Pool) Add(device int) error {
	return p.turn(func(r roster.Roster) (roster.Roster, error) {
		switch {
		case len(r.List) >= api.MaxDevices:
			return roster.Roster{}, api.ErrMany
		case device != len(r.List) || device >= len(p.bank.Sizes()):
			return roster.Roster{}, api.ErrDevice
		}
		next, _, err := r.Add(p.size(device))
		return next, err
	})
}

// Grow lets a device be as great as the bank's is.
func (p *Pool) Grow(device int) error {
	return p.turn(func(r roster.Roster) (roster.Roster, error) { return r.Grow(device, p.size(device)) })
}

// Evacuate lets a device be left from now on.
func (p *Pool) Evacuate(device int) error {
	return p.turn(func(r roster.Roster) (roster.Roster, error) {
		next, err := r.Drain(device)
		if err == nil && p.mover != nil {
			return roster.Roster{}, api.ErrBusy
		}
		return next, err
	})
}

// Cancel lets the device that is being left be used as before.
func (p *Pool) Cancel() error {
	return p.turn(func(r roster.Roster) (roster.Roster, error) {
		if p.mover == nil {
			return roster.Roster{}, api.ErrIdle
		}
		return r.Cancel(p.mover.Device())
	})
}

// Move does one step of leaving a device, and tells what it did.
func (p *Pool) Move() (int, error) {
	did := 0
	err := p.rehearsed(func(p *Pool) (err error) {
		if p.mover == nil {
			return api.ErrIdle
		}
		if did, err = p.mover.Step(); err != nil {
			return err
		}
		return p.goOn(did)
	})
	if err != nil {
		return 0, err
	}
	return did, nil
}

// goOn commits what a step changed. A device on which nothing is any more is Removed with that; but what was given back there is settled first, since till then the devices know of no other place.
func (p *Pool) goOn(did int) error {
	device := p.mover.Device()
	next := func(r roster.Roster) (roster.Roster, error) { return r, nil }
	switch did {
	case mover.Empty:
		if p.manager.Space().Used(device) > 0 {
			if err := p.Flush(); err != nil {
				return err
			}
		}
		next = func(r roster.Roster) (roster.Roster, error) { return r.Remove(device) }
		fallthrough
	case mover.Swapped, mover.Moved:
		return p.turn(next)
	}
	return nil
}

// turn commits the roster that next makes of the one that there is.
func (p *Pool) turn(next func(roster.Roster) (roster.Roster, error)) error {
	return p.commit(func(m *thin.Manager) error {
		r, err := next(m.Space().Roster())
		if err != nil {
			return err
		}
		return m.Turn(r)
	})
}

// size tells how many sectors the bank's device has, 0 if it has none.
func (p *Pool) size(device int) int {
	sizes := p.bank.Sizes()
	if device < 0 || device >= len(sizes) {
		return 0
	}
	return sizes[device]
}
