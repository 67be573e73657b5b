package pool

import (
	"portage/api"
	"portage/mover"
	"portage/super"
	"portage/thin"
)

// commit makes a change, and all that came ahead of it, durable. As long as there is power, a change that is refused, or has no room to be saved, is wholly taken back.
func (p *Pool) commit(change func(*thin.Manager) error) error {
	return p.rehearsed(func(p *Pool) error {
		if err := p.manager.Begin(); err != nil {
			return err
		}
		if err := p.seal(change); err != nil {
			p.manager.Back()
			return err
		}
		p.manager.Commit()
		// The mover gives back what was taken for copies that nobody needs, ahead of settling, so that it is free at once.
		p.follow()
		p.manager.Settle()
		return nil
	})
}

// seal makes a change, and lets the next generation count. All that this one names is flushed ahead of it.
func (p *Pool) seal(change func(*thin.Manager) error) error {
	if err := change(p.manager); err != nil {
		return err
	}
	root, err := p.manager.Save()
	if err != nil {
		return err
	}
	next := super.Super{Gen: p.last.Gen + 1, Root: root, Roster: p.roster()}
	if err := next.Check(); err != nil {
		return err
	}
	if err := p.count(next); err != nil {
		return err
	}
	p.last = next
	return nil
}

// count lets a superblock count, in place of the last one.
func (p *Pool) count(next super.Super) error {
	if err := p.bank.Flush(next.Roster.Members()...); err != nil {
		return err
	}
	if err := p.release(next.Roster); err != nil {
		return err
	}
	return super.Write(p.bank, next)
}

// follow lets there be a mover just while a member is Draining, and tells the one that stays that something may have been unmapped.
func (p *Pool) follow() {
	r := p.roster()
	if p.mover != nil && r.State(p.mover.Device()) == api.Draining {
		p.prune()
		return
	}
	if p.mover != nil {
		p.mover.Cancel()
		p.mover = nil
	}
	for _, device := range r.Members() {
		if v, err := mover.New(p.manager, p.bank, device); err == nil {
			p.mover = v
			return
		}
	}
}
