package thin

import (
	"slices"

	"portage/api"
	"portage/btree"
	"portage/catalog"
	"portage/refs"
	"portage/space"
)

// trial is a change that may still be refused. Till its end it just takes, so that all of it can be given back, whether something is begun or not: the trees that were there are held once more, so that none of their pages goes, and who owns what is changed last.
type trial struct {
	*Manager
	// volumes and root are what the catalog had ahead of it.
	volumes []catalog.Volume
	root    int
	// taken has the addresses that were taken for blocks.
	taken []int
	// named has where blocks are then.
	named []piece
}

// piece is where a block is, and what is laid there.
type piece struct {
	owner refs.Owner
	addr  int
	data  []byte
}

// whole does some work wholly or, if it is refused, not at all. The catalog is begun for that, unless it is already: then it was begun, too, when its tree was the one that it has now.
func (m *Manager) whole(work func(t *trial) error) error {
	t := &trial{Manager: m, volumes: m.catalog.List(), root: m.catalog.Root()}
	if m.begun == nil {
		m.catalog.Begin()
	}
	m.hold(trees(t.volumes, t.root)...)
	if err := work(t); err != nil {
		t.undo()
		return err
	}
	t.end()
	return nil
}

// undo gives back all that was taken, and takes the catalog back.
func (t *trial) undo() {
	t.drop(trees(t.catalog.List(), t.catalog.Root())...)
	for _, addr := range t.taken {
		t.space.Give(addr)
	}
	t.catalog.Back()
	if t.begun == nil {
		return
	}
	t.catalog.Begin()
	for _, v := range t.catalog.List() {
		t.catalog.Remove(v.Id)
	}
	for _, v := range t.volumes {
		t.catalog.Put(v)
	}
}

// end lets all that was done stay. Nothing of it can be refused.
func (t *trial) end() {
	t.drop(trees(t.volumes, t.root)...)
	for _, p := range t.named {
		t.name(p.owner, p.addr)
	}
	switch {
	case t.begun == nil:
		t.catalog.Commit()
	case t.catalog.Root() != t.root:
		t.renew()
	}
}

// renew goes over to another catalog that is alike, and is begun with the tree that it has now, to which the next trial goes back if it is refused. All volumes were saved just ahead of it, so that all trees are known and right: nothing is read, and Load can't be refused.
func (m *Manager) renew() {
	root := m.catalog.Root()
	next, err := catalog.Load(m.store, root)
	if err != nil {
		return
	}
	// Load holds all these trees, which are held already.
	m.drop(trees(next.List(), root)...)
	next.Begin()
	m.catalog = next
}

// turn lets a volume have another tree. It is told at once, so that undo finds each tree that is held.
func (t *trial) turn(v *catalog.Volume, root int) {
	v.Root = root
	t.catalog.Put(*v)
}

// write lets blocks of a volume have these bytes. What is new is laid first, since that can be given back; what is written where it is comes last.
func (t *trial) write(v *catalog.Volume, block int, data []byte) error {
	stay, move, err := t.places(v.Id, block, data)
	if err != nil {
		return err
	}
	for _, p := range move {
		if err := t.lay(p); err != nil {
			return err
		}
	}
	for _, p := range move {
		root, err := btree.Set(t.store, v.Root, p.owner.Block, p.addr)
		if err != nil {
			return err
		}
		t.turn(v, root)
	}
	t.named = move
	return t.layAll(stay)
}

// places tells which blocks stay where they are, and which move to addresses that were free.
func (t *trial) places(id, block int, data []byte) (stay, move []piece, err error) {
	for sector := range slices.Chunk(data, api.Sector) {
		p := piece{owner: refs.Owner{Vol: id, Block: block}, data: sector}
		block++
		if t.mayStay(p.owner) {
			p.addr = t.refs.Of(p.owner)
			stay = append(stay, p)
			continue
		}
		if p.addr, err = t.space.Take(); err != nil {
			return nil, nil, err
		}
		t.taken = append(t.taken, p.addr)
		move = append(move, p)
	}
	return stay, move, nil
}

// lay writes a piece to its address.
func (t *trial) lay(p piece) error {
	device, sector := space.At(p.addr)
	return t.bank.Write(device, sector, p.data)
}

// layAll writes pieces over what was there, all of them or, as long as there is power, none. Devices refuse just what they have no such sector for; one that is refused is tried ahead of all others.
func (t *trial) layAll(list []piece) error {
	sizes := t.bank.Sizes()
	refused := func(p piece) bool {
		device, sector := space.At(p.addr)
		return device >= len(sizes) || sector >= sizes[device]
	}
	if at := slices.IndexFunc(list, refused); at >= 0 {
		return t.lay(list[at])
	}
	for _, p := range list {
		if err := t.lay(p); err != nil {
			return err
		}
	}
	return nil
}

// discard lets the blocks of a volume from one on, and below another one, be mapped no more.
func (t *trial) discard(v *catalog.Volume, from, below int) error {
	gone := t.mapped(*v, from, below)
	for _, block := range gone {
		t.named = append(t.named, piece{owner: refs.Owner{Vol: v.Id, Block: block}})
	}
	if len(btree.Items(t.store, v.Root, 0, len(gone)+1)) == len(gone) {
		// No pair is left: the tree goes as it is, without room for pages in between.
		t.drop(v.Root)
		t.turn(v, 0)
		return nil
	}
	for _, block := range gone {
		root, err := btree.Delete(t.store, v.Root, block)
		if err != nil {
			return err
		}
		t.turn(v, root)
	}
	return nil
}

// mapped tells which blocks of a volume are mapped, from one on and below another one.
func (m *Manager) mapped(v catalog.Volume, from, below int) []int {
	var blocks []int
	for _, pair := range btree.Items(m.store, v.Root, from, max(below-from, 0)) {
		if pair.Key < below {
			blocks = append(blocks, pair.Key)
		}
	}
	return blocks
}

// trees tells the trees of volumes, and the catalog's.
func trees(volumes []catalog.Volume, root int) []int {
	roots := []int{root}
	for _, v := range volumes {
		roots = append(roots, v.Root)
	}
	return roots
}
