package thin

import (
	"portage/api"
	"portage/bank"
	"portage/btree"
	"portage/catalog"
	"portage/refs"
	"portage/roster"
)

// Load tells the manager that was saved as a tree.
func Load(b *bank.Bank, r roster.Roster, root int) (*Manager, error) {
	m, err := New(b, r)
	if err != nil {
		return nil, err
	}
	if m.catalog, err = catalog.Load(m.store, root); err != nil {
		return nil, err
	}
	for _, v := range m.catalog.List() {
		if err := m.own(v); err != nil {
			return nil, err
		}
	}
	return m, nil
}

// own lets the blocks of a volume own the addresses that its tree tells. All pages are marked by then, so that the space refuses an address that nobody owns yet just if it is a page's, or not in the room.
func (m *Manager) own(v catalog.Volume) error {
	if btree.Check(m.store, v.Root) != nil {
		return api.ErrNode
	}
	for _, pair := range btree.Items(m.store, v.Root, 0, -1) {
		if pair.Key >= v.Size {
			return api.ErrNode
		}
		if m.refs.Count(pair.Val) == 0 && m.space.Mark(pair.Val) != nil {
			return api.ErrNode
		}
		m.refs.Put(refs.Owner{Vol: v.Id, Block: pair.Key}, pair.Val)
	}
	return nil
}
