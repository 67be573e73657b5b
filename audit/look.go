package audit

import (
	"portage/api"
	"portage/bank"
	"portage/fault"
	"portage/node"
	"portage/space"
	"portage/super"
)

// look is one look at what stands on the devices.
type look struct {
	bank  *bank.Bank
	super super.Super
	// space has all addresses taken that were found so far. What is not in the room it refuses.
	space *space.Space
	// pages stand at their addresses, each behind all that is below it.
	pages  map[int]page
	report Report
}

// page is a page that was found right, with all that is below it.
type page struct {
	node node.Node
	// greatest is the greatest key of the pairs below it, or of its own.
	greatest int
}

// lookAt looks at all that stands on the devices. All pages are known ahead of the first block, so that an address that is both is found.
func lookAt(b *bank.Bank) (*look, error) {
	s, _, err := super.Read(b)
	if err != nil {
		return nil, err
	}
	l := &look{bank: b, super: s, pages: map[int]page{}}
	if err := l.members(); err != nil {
		return nil, err
	}
	volumes, err := l.catalog()
	if err != nil {
		return nil, err
	}
	for _, v := range volumes {
		if err := l.tree(v.root); err != nil {
			return nil, err
		}
	}
	marked := l.used()
	for _, v := range volumes {
		if err := l.blocks(v); err != nil {
			return nil, err
		}
	}
	l.count(marked, l.used())
	l.report.Gen, l.report.Volumes = s.Gen, len(volumes)
	return l, nil
}

// members looks at the members, and makes the space of them. It is not refused: a superblock that is told has a right roster.
func (l *look) members() error {
	sizes := l.bank.Sizes()
	for device, e := range l.super.Roster.List {
		if isMember(e.State) && (device >= len(sizes) || sizes[device] < e.Size) {
			return fault.Wrap("audit", device, 0, api.ErrAudit)
		}
	}
	s, err := space.New(l.super.Roster)
	l.space = s
	return err
}

// tree looks at the tree at an address. The empty one is no page.
func (l *look) tree(root int) error {
	if root == 0 {
		return nil
	}
	top, err := l.page(root)
	if err != nil {
		return err
	}
	l.report.Levels = max(l.report.Levels, top.node.Level+1)
	return nil
}

// page looks at the page at an address, with all that is below it, unless it is known. The space refuses it if it is not in the room, and if it was come to already: then it stands below itself.
func (l *look) page(addr int) (page, error) {
	if x, known := l.pages[addr]; known {
		return x, nil
	}
	if l.space.Mark(addr) != nil {
		return page{}, wrong(addr, api.ErrAudit)
	}
	n, err := l.read(addr)
	if err != nil {
		return page{}, err
	}
	greatest, err := l.below(n)
	if err != nil {
		return page{}, err
	}
	x := page{node: n, greatest: greatest}
	l.pages[addr] = x
	return x, nil
}

// read tells the node that stands at an address.
func (l *look) read(addr int) (node.Node, error) {
	sector, err := l.bank.Read(space.At(addr))
	if err != nil {
		return node.Node{}, wrong(addr, err)
	}
	n, err := node.Parse(sector)
	if err != nil {
		return node.Node{}, wrong(addr, api.ErrAudit)
	}
	return n, nil
}

// below looks at all that is below a node, and tells the greatest key there.
func (l *look) below(n node.Node) (int, error) {
	last := len(n.Keys) - 1
	greatest := n.Keys[last]
	if n.Level == 0 {
		return greatest, nil
	}
	for i, addr := range n.Vals {
		lower, err := l.page(addr)
		if err != nil {
			return 0, err
		}
		greatest = lower.greatest
		if lower.node.Level != n.Level-1 || lower.node.Keys[0] != n.Keys[i] || i < last && greatest >= n.Keys[i+1] {
			return 0, wrong(addr, api.ErrAudit)
		}
	}
	return greatest, nil
}

// used tells how many addresses of each device were found so far.
func (l *look) used() []int {
	var list []int
	for device := range l.super.Roster.List {
		list = append(list, l.space.Used(device))
	}
	return list
}

// count reports what is on each device, by how many pages there are, and by how many addresses in all.
func (l *look) count(pages, all []int) {
	for device := range all {
		on := Count{Data: all[device] - pages[device], Pages: pages[device]}
		l.report.On = append(l.report.On, on)
		l.report.Data += on.Data
		l.report.Pages += on.Pages
	}
}

// wrong tells the fault that stands for an error at an address.
func wrong(addr int, err error) error {
	device, sector := space.At(addr)
	return fault.Wrap("audit", device, sector, err)
}
