package thin

import (
	"slices"

	"portage/api"
	"portage/btree"
	"portage/space"
)

// Swap lets the blocks at some addresses be at others, where what they have was laid, writes the pages that are on a device anew elsewhere, and saves that.
func (m *Manager) Swap(device int, from, to []int) error {
	if err := m.swappable(from, to); err != nil {
		return err
	}
	spare := m.spare(from, to)
	err := m.whole(func(t *trial) error {
		return t.beside(device, func() error { return t.swap(device, from, to) })
	})
	if err != nil {
		return err
	}
	for _, addr := range spare {
		m.space.Give(addr)
	}
	return nil
}

// swappable tells what is wrong with the addresses of a swap. Those of from may be anybody's but a page's; those of to must be taken, and nobody's.
func (m *Manager) swappable(from, to []int) error {
	if len(from) != len(to) {
		return api.ErrLength
	}
	all := slices.Concat(from, to)
	if !m.areInRoom(all) {
		return api.ErrRange
	}
	isPage := func(addr int) bool { return m.store.Holds(addr) > 0 }
	isNone := func(addr int) bool { return !m.space.Taken(addr) || m.refs.Count(addr) > 0 }
	slices.Sort(all)
	if slices.ContainsFunc(all, isPage) || slices.ContainsFunc(to, isNone) || len(slices.Compact(all)) < len(from)+len(to) {
		return api.ErrTaken
	}
	return nil
}

// areInRoom tells whether all of these are addresses in the room.
func (m *Manager) areInRoom(addrs []int) bool {
	r := m.space.Roster()
	members := r.Members()
	for _, addr := range addrs {
		device, sector := space.At(addr)
		if !slices.Contains(members, device) || sector < api.Slots || sector >= r.List[device].Size {
			return false
		}
	}
	return true
}

// spare tells the addresses that are nobody's behind a swap, since no block is at one of from: they are given back, or they would stay taken for good.
func (m *Manager) spare(from, to []int) []int {
	var addrs []int
	for i, addr := range from {
		if m.refs.Count(addr) > 0 {
			continue
		}
		addrs = append(addrs, to[i])
		if m.space.Taken(addr) {
			addrs = append(addrs, addr)
		}
	}
	return addrs
}

// beside does some work that takes nothing on a device, if there is another one to take it on. One that is Active is Draining for that while.
func (m *Manager) beside(device int, work func() error) error {
	was := m.space.Roster()
	draining, err := was.Drain(device)
	if err != nil {
		return work()
	}
	m.space.Turn(draining)
	defer m.space.Turn(was)
	return work()
}

// swap writes all trees anew that must be. What is noted is the same for all of them, so that they share what they shared.
func (t *trial) swap(device int, from, to []int) error {
	vals, noted := map[int]int{}, map[int]int{}
	for i, addr := range from {
		vals[addr] = to[i]
		for _, o := range t.refs.Owners(addr) {
			t.named = append(t.named, piece{owner: o, addr: to[i]})
		}
	}
	for _, v := range t.volumes {
		root, err := btree.Swap(t.store, v.Root, device, noted, vals)
		if err != nil {
			return err
		}
		t.turn(&v, root)
	}
	if err := t.catalog.Save(); err != nil {
		return err
	}
	return t.catalog.Leave(device)
}
