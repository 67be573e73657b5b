package audit

import (
	"portage/api"
	"portage/fault"
	"portage/node"
)

// What a pair of the catalog tells of a volume. Each Id has as many keys, of which the last one tells nothing.
const (
	tellsSize = iota
	tellsRoot
	tellsOrigin
	tellsNothing
	keysPerId
)

// maxId is the greatest Id of a volume.
const maxId = 1 << 20

// volume is what is to be known of a volume to look at its blocks.
type volume struct{ id, size, root int }

// catalog looks at the catalog's tree, and tells the volumes that stand there.
func (l *look) catalog() ([]volume, error) {
	if err := l.tree(l.super.Root); err != nil {
		return nil, err
	}
	var volumes []volume
	err := l.walk(l.super.Root, func(_ int, p node.Pair) error {
		next, ok := extend(volumes, p)
		if !ok || len(next) > api.MaxVolumes {
			return fault.Wrap("audit", -1, 0, api.ErrAudit)
		}
		volumes = next
		return nil
	})
	return volumes, err
}

// extend tells the volumes with what the next pair of the catalog tells, of one more or of the last one. The keys rise, so that none tells a thing twice; and a value is at least 1, and no greater than a Root may be.
func extend(volumes []volume, p node.Pair) (next []volume, ok bool) {
	id, last := p.Key/keysPerId, len(volumes)-1
	what := p.Key % keysPerId
	if what == tellsSize {
		return append(volumes, volume{id: id, size: p.Val}), id >= 1 && id <= maxId && p.Val <= api.MaxBlocks
	}
	if last < 0 || volumes[last].id != id {
		return volumes, false
	}
	if what == tellsRoot {
		volumes[last].root = p.Val
	}
	return volumes, what == tellsRoot || what == tellsOrigin && p.Val <= maxId
}

// blocks looks at the blocks of a volume.
func (l *look) blocks(v volume) error {
	return l.walk(v.root, func(leaf int, p node.Pair) error {
		if p.Key >= v.size {
			return wrong(leaf, api.ErrAudit)
		}
		l.report.Mapped++
		return l.block(p.Val)
	})
}

// block looks at the address of a block. The space has it taken already if it is another block's, too, or if it is a page.
func (l *look) block(addr int) error {
	_, isPage := l.pages[addr]
	if isPage || l.space.Mark(addr) != nil && !l.space.Taken(addr) {
		return wrong(addr, api.ErrAudit)
	}
	return nil
}

// walk hands on the pairs of a tree that was looked at, rising, each with the address of its leaf, till one is refused. At the root of the empty tree there is no page, and so no pair.
func (l *look) walk(addr int, do func(leaf int, p node.Pair) error) error {
	n := l.pages[addr].node
	for i, val := range n.Vals {
		var err error
		if n.Level > 0 {
			err = l.walk(val, do)
		} else {
			err = do(addr, node.Pair{Key: n.Keys[i], Val: val})
		}
		if err != nil {
			return err
		}
	}
	return nil
}
