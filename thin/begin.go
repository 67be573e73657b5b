package thin

import (
	"bytes"
	"maps"
	"slices"

	"portage/api"
	"portage/catalog"
	"portage/space"
)

// begun is what Back goes back to, beside what the layers below keep for themselves.
type begun struct {
	// catalog is the one at Begin, and begun since then.
	catalog *catalog.Catalog
	fenced  map[int]struct{}
	// taken has the addresses that were taken at Begin.
	taken []int
	// kept has what was at those of them that Settle let be taken by others.
	kept map[int][]byte
}

// Begin lets all that the manager has be taken back, till it is ended.
func (m *Manager) Begin() error {
	if m.begun != nil {
		return api.ErrBusy
	}
	m.begun = &begun{catalog: m.catalog, fenced: maps.Clone(m.fenced), kept: map[int][]byte{}}
	for device := range m.space.Roster().List {
		m.begun.taken = append(m.begun.taken, m.space.On(device)...)
	}
	m.space.Begin()
	m.store.Begin()
	m.refs.Begin()
	m.catalog.Begin()
	return nil
}

// Commit ends what was begun, and lets it stay.
func (m *Manager) Commit() error {
	if m.begun == nil {
		return api.ErrBusy
	}
	m.begun = nil
	m.space.Commit()
	m.store.Commit()
	m.refs.Commit()
	return m.catalog.Commit()
}

// Back ends what was begun, and takes all of it back.
func (m *Manager) Back() error {
	if m.begun == nil {
		return api.ErrBusy
	}
	was := m.begun
	m.begun, m.catalog, m.fenced = nil, was.catalog, was.fenced
	m.space.Back()
	m.store.Back()
	m.refs.Back()
	m.catalog.Back()
	return m.restore(was.kept)
}

// Settle lets all that was given back be taken again, and tells how many that were.
func (m *Manager) Settle() int {
	count := m.space.Settle()
	clear(m.fenced)
	if m.begun != nil {
		m.keep()
	}
	return count
}

// keep keeps what is at addresses that were taken at Begin, and may be written over from now on. What can't be read now could not be read ahead of it, either.
func (m *Manager) keep() {
	for _, addr := range m.begun.taken {
		if _, has := m.begun.kept[addr]; has || m.space.Taken(addr) {
			continue
		}
		if data, err := m.sector(addr); err == nil {
			m.begun.kept[addr] = data
		}
	}
}

// restore writes what was kept where it was, unless it is there still. It tells the first error, behind all others.
func (m *Manager) restore(kept map[int][]byte) error {
	var first error
	for _, addr := range slices.Sorted(maps.Keys(kept)) {
		if now, err := m.sector(addr); err == nil && bytes.Equal(now, kept[addr]) {
			continue
		}
		device, sector := space.At(addr)
		if err := m.bank.Write(device, sector, kept[addr]); err != nil && first == nil {
			first = err
		}
	}
	return first
}
