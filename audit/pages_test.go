package audit_test

import (
	"testing"

	"portage/api"
	"portage/bank"
	"portage/fault"
	"portage/node"
	"portage/roster"
	"portage/space"
	"portage/super"
)

// hand is a bank on which a pool is laid by hand.
type hand struct {
	*testing.T
	b *bank.Bank
}

// leaf is a node without pages below it, of a key, a value, a key, a value, and so on.
func leaf(pairs ...int) node.Node { return over(0, pairs...) }

// over is a node of a Level, of a key, a value, a key, a value, and so on.
func over(level int, pairs ...int) node.Node {
	n := node.Node{Level: level}
	for i := 0; i < len(pairs); i += 2 {
		n.Keys, n.Vals = append(n.Keys, pairs[i]), append(n.Vals, pairs[i+1])
	}
	return n
}

// at is an address.
func at(device, sector int) int { return space.Addr(device, sector) }

// entries are those of a roster: of a state and a size each.
func entries(pairs ...int) []roster.Entry {
	var list []roster.Entry
	for i := 0; i < len(pairs); i += 2 {
		list = append(list, roster.Entry{State: pairs[i], Size: pairs[i+1]})
	}
	return list
}

// laid is a bank of two devices of 50, with pages at these addresses.
func laid(t *testing.T, pages map[int]node.Node) hand {
	t.Helper()
	h := hand{T: t, b: banked(t, 50, 50)}
	for addr, n := range pages {
		h.page(addr, n)
	}
	return h
}

// page lays a node at an address.
func (h hand) page(addr int, n node.Node) {
	h.Helper()
	sector, err := n.Bytes()
	must(h.T, "Bytes", err)
	device, place := space.At(addr)
	must(h.T, "Write", h.b.Write(device, place, sector))
}

// root lays a superblock over two devices, both of them Active, on both.
func (h hand) root(root int) hand {
	h.Helper()
	return h.super(root, entries(api.Active, 50, api.Active, 50)...)
}

// superOf is a superblock.
func superOf(gen, root int, r roster.Roster) super.Super {
	return super.Super{Gen: gen, Root: root, Roster: r}
}

// super lays a superblock on all members that the bank has.
func (h hand) super(root int, list ...roster.Entry) hand {
	h.Helper()
	s := superOf(7, root, roster.Roster{List: list})
	sector, err := s.Bytes()
	must(h.T, "Bytes", err)
	for _, device := range s.Roster.Members() {
		if device < len(h.b.Sizes()) && h.b.Sizes()[device] > 0 {
			must(h.T, "Write", h.b.Write(device, s.Gen%api.Slots, sector))
		}
	}
	return h
}

// one is a pool with the volume 1 of 1000 blocks, whose tree has its root at the sector 10, and these pages.
func one(t *testing.T, pages map[int]node.Node) hand {
	t.Helper()
	h := laid(t, pages)
	h.page(at(0, 2), leaf(4, 1000, 5, at(0, 10)))
	return h.root(at(0, 2))
}

// three are the pages of a tree of three levels, with its root at the sector 10.
func three() map[int]node.Node {
	return map[int]node.Node{
		at(0, 10): over(2, 3, at(0, 11), 40, at(1, 12)),
		at(0, 11): over(1, 3, at(1, 13), 20, at(0, 14)),
		at(1, 12): over(1, 40, at(0, 15), 60, at(0, 16)),
		at(1, 13): leaf(3, at(1, 40), 7, at(1, 41), 19, at(0, 42)),
		at(0, 14): leaf(20, at(1, 43), 39, at(1, 44)),
		at(0, 15): leaf(40, at(1, 45), 41, at(1, 45), 59, at(0, 46)),
		at(0, 16): leaf(60, at(0, 49), 999, at(1, 49)),
	}
}

// TestP22_1Right has pools that are laid by hand, and right.
func TestP22_1Right(t *testing.T) {
	h := one(t, three())
	r := audited(t, h.b)
	if r.Gen != 7 || r.Volumes != 1 || r.Mapped != 10 || r.Data != 9 || r.Pages != 8 || r.Levels != 3 || len(r.On) != 2 {
		t.Fatalf("Audit: %+v", r)
	}
	if r.On[0].Data != 3 || r.On[0].Pages != 6 || r.On[1].Data != 6 || r.On[1].Pages != 2 {
		t.Fatalf("Audit: %+v", r)
	}
	h.wantOpen(true)

	// The same tree by other pages, which have the leaves in common, and one that is part of it.
	h.page(at(0, 20), over(2, 3, at(0, 21), 40, at(1, 12)))
	h.page(at(0, 21), over(1, 3, at(1, 13), 20, at(0, 14)))
	h.page(at(0, 2), leaf(4, 1000, 5, at(0, 10), 8, 1<<20, 9, at(0, 20), 10, 1<<20, 12, 1000, 13, at(1, 12)))
	r = audited(t, h.b)
	if r.Volumes != 3 || r.Mapped != 25 || r.Data != 9 || r.Pages != 10 || r.Levels != 3 {
		t.Fatalf("Audit: %+v", r)
	}
	h.wantOpen(true)

	// The whole tree for two volumes, one of them above: 21 levels.
	high := leaf(5, at(0, 30))
	h = laid(t, map[int]node.Node{at(1, 30): high, at(1, 2): leaf(4*1<<20, 6, 4*1<<20+1, at(1, 10))})
	for level := 1; level <= 20; level++ {
		h.page(at(1, 30-level), over(level, 5, at(1, 31-level)))
	}
	h.root(at(1, 2))
	r = audited(t, h.b)
	if r.Volumes != 1 || r.Mapped != 1 || r.Data != 1 || r.Pages != 22 || r.Levels != 21 {
		t.Fatalf("Audit: %+v", r)
	}
	h.wantOpen(true)

	// A leaf of the catalog is a volume's tree, too: its values are addresses there.
	h = laid(t, map[int]node.Node{
		at(0, 2): over(1, 4, at(0, 3), 8, at(0, 4)),
		at(0, 3): leaf(4, 100, 5, at(0, 4)),
		at(0, 4): leaf(8, 30, 12, 31),
	}).root(at(0, 2))
	r = audited(t, h.b)
	if r.Volumes != 3 || r.Mapped != 2 || r.Data != 2 || r.Pages != 3 || r.Levels != 2 {
		t.Fatalf("Audit: %+v", r)
	}
	h.wantOpen(true)
}

// TestP22_1Members has members that are not there, or not as great as the roster says. The others, and devices that are Removed, play no part.
func TestP22_1Members(t *testing.T) {
	for device := range 3 {
		for _, state := range []int{api.Active, api.Draining} {
			list := entries(api.Active, 50, api.Active, 50, api.Active, 50)
			list[device].State = state
			h := hand{t, banked(t, 50, 50, 50)}
			h.super(0, list...).wantOpen(true)
			must(t, "Detach", h.b.Detach(device))
			wantWrong(t, h.b, device, 0)
			h.wantOpen(false)

			for _, more := range []int{1, 2, api.MaxSectors - 50} {
				list[device].Size = 50 + more
				h = hand{t, banked(t, 50, 50, 50)}
				wantWrong(t, h.super(0, list...).b, device, 0)
				h.wantOpen(false)
				if more > 1 {
					must(t, "Grow", h.b.Grow(device, more-1))
					wantWrong(t, h.b, device, 0)
				}
				must(t, "Grow", h.b.Grow(device, 1))
				h.wantOpen(true)
			}
			list[device].Size = 49
			hand{t, banked(t, 50, 50, 50)}.super(0, list...).wantOpen(true)
		}
	}
	// A member that the bank never had.
	for beyond := 2; beyond < api.MaxDevices; beyond++ {
		list := entries(api.Active, 50, api.Active, 50)
		for len(list) < beyond {
			list = append(list, roster.Entry{State: api.Removed, Size: 9})
		}
		h := hand{t, banked(t, 50, 50)}
		h.super(0, list...).wantOpen(true)
		wantReport(t, h.b, reportOf(7, beyond))
		h.super(0, append(list, roster.Entry{State: api.Draining, Size: 3})...)
		wantWrong(t, h.b, beyond, 0)
		h.wantOpen(false)
	}
}

// TestP22_1Unread has pages that cannot be read: layer 4's error is told, in the fault of the page.
func TestP22_1Unread(t *testing.T) {
	pages := three()
	pages[at(0, 2)] = node.Node{}
	for addr := range pages {
		h := one(t, three())
		device, sector := space.At(addr)
		must(t, "Bad", h.b.Bad(device, sector, true))
		wantFault(t, refused(t, h.b), device, sector, fault.Wrap("read", device, sector, api.ErrRead))
		h.wantOpen(false)
		must(t, "Bad", h.b.Bad(device, sector, false))
		h.wantOpen(true)
		// What is no node is told alike, but around ErrAudit.
		for _, junk := range [][]byte{of(0), of(77), framedSuper(t)} {
			must(t, "Write", h.b.Write(device, sector, junk))
			wantWrong(t, h.b, device, sector)
			h.wantOpen(false)
		}
	}
	// A block is not read.
	h := one(t, three())
	must(t, "Bad", h.b.Bad(1, 40, true))
	h.wantOpen(true)
}

// framedSuper is a sector in which a superblock stands.
func framedSuper(t *testing.T) []byte {
	t.Helper()
	sector, err := super.Super{Gen: 1, Roster: roster.Roster{List: entries(api.Active, 9)}}.Bytes()
	must(t, "Bytes", err)
	return sector
}

// outside are addresses that are not in the room of a pool over four devices, of which the second is Draining and the third Removed; the bank has a fifth.
func outside() []int {
	return []int{at(0, 0), at(0, 1), at(1, 0), at(1, 1), at(0, 40), at(0, 49), at(0, 50), at(1, 45), at(1, api.MaxSectors-1), at(2, 5), at(2, 1), at(3, 3), at(4, 5), at(5, 5), at(7, api.MaxSectors-1), api.MaxDevices * api.MaxSectors, 1 << 20, 1 << 40, 1<<61 - 1, 1 << 61}
}

// four lays a superblock over these devices.
func (h hand) four(root int) hand {
	h.Helper()
	return h.super(root, entries(api.Active, 40, api.Draining, 45, api.Removed, 50, api.Active, 3)...)
}

// TestP22_1Room has pages that are not in the room, though a node stands there, as the catalog's root, as a volume's, and below one.
func TestP22_1Room(t *testing.T) {
	for _, addr := range outside() {
		if addr == 0 {
			continue
		}
		device, sector := space.At(addr)
		fresh := func() hand {
			h := hand{t, banked(t, 50, 50, 50, 50, 50)}
			if device >= 0 && device < 5 && sector < 50 && sector >= api.Slots {
				h.page(addr, leaf(4, 9))
			}
			return h
		}
		h := fresh()
		wantWrong(t, h.four(addr).b, device, sector)
		h.wantOpen(false)

		h = fresh()
		h.page(at(0, 2), leaf(4, 9, 5, addr))
		wantWrong(t, h.four(at(0, 2)).b, device, sector)
		h.wantOpen(false)

		h = fresh()
		h.page(at(0, 2), leaf(4, 9, 5, at(1, 3)))
		h.page(at(1, 3), over(1, 1, at(1, 4), 4, addr))
		h.page(at(1, 4), leaf(1, at(3, 2)))
		wantWrong(t, h.four(at(0, 2)).b, device, sector)
		h.wantOpen(false)
	}
	// The superblocks' own sectors may have nodes.
	h := laid(t, map[int]node.Node{at(0, 1): leaf(4, 9)})
	h.page(at(1, 0), leaf(4, 9))
	must(t, "Write", h.b.Write(0, 0, of(0)))
	h.root(at(1, 0))
	wantWrong(t, h.b, 1, 0)
	h.wantOpen(false)
	// The first and the last ones that are in the room.
	for _, addr := range []int{at(0, 2), at(0, 39), at(1, 2), at(1, 44), at(3, 2)} {
		h := hand{t, banked(t, 50, 50, 50, 50, 50)}
		h.page(addr, leaf(4, 9))
		h.four(addr).wantOpen(true)
		if r := audited(t, h.b); r.Pages != 1 || r.Volumes != 1 {
			t.Fatalf("Audit: %+v", r)
		}
	}
}

// TestP22_1Levels has pages that are named with a Level that is not one less.
func TestP22_1Levels(t *testing.T) {
	for level := range 21 {
		for upper := 1; upper <= 20; upper++ {
			h := laid(t, map[int]node.Node{at(0, 11): leaf(3, at(1, 40))})
			if level > 0 {
				h.page(at(0, 11), over(level, 3, at(0, 12)))
				// Below it all is right.
				for l := level - 1; l >= 0; l-- {
					n := over(l, 3, at(0, 11+level-l+1))
					if l == 0 {
						n = leaf(3, at(1, 40))
					}
					h.page(at(0, 11+level-l), n)
				}
			}
			h.page(at(0, 10), over(upper, 3, at(0, 11)))
			h.page(at(0, 2), leaf(4, 1000, 5, at(0, 10)))
			h.root(at(0, 2))
			h.wantOpen(level == upper-1)
			if level != upper-1 {
				wantWrong(t, h.b, 0, 11)
			}
		}
	}
	// The catalog's tree, too.
	h := laid(t, map[int]node.Node{at(0, 2): over(2, 4, at(0, 3)), at(0, 3): leaf(4, 9)})
	wantWrong(t, h.root(at(0, 2)).b, 0, 3)
	h.wantOpen(false)
}

// TestP22_1Keys has trees of three levels in which one key is not right.
func TestP22_1Keys(t *testing.T) {
	for _, c := range []struct {
		what          string
		addr          int
		n             node.Node
		device, place int
	}{
		{"a least key above the place's", at(1, 13), leaf(4, at(1, 40)), 1, 13},
		{"a least key below the place's", at(1, 13), leaf(2, at(1, 40), 3, at(1, 41)), 1, 13},
		{"a least key above the second place's", at(0, 14), leaf(21, at(1, 43)), 0, 14},
		{"a least key below the second place's", at(0, 14), leaf(19, at(1, 43), 20, at(1, 44)), 0, 14},
		{"a least key of a page above the leaves", at(0, 11), over(1, 4, at(1, 13), 20, at(0, 14)), 1, 13},
		{"a key as great as the next place's", at(1, 13), leaf(3, at(1, 40), 20, at(1, 41)), 1, 13},
		{"a key greater than the next place's", at(1, 13), leaf(3, at(1, 40), 21, at(1, 41)), 1, 13},
		{"a key as great as the next place's two levels above", at(0, 14), leaf(20, at(1, 43), 40, at(1, 44)), 0, 11},
		{"a key greater than the next place's two levels above", at(0, 14), leaf(20, at(1, 43), 500, at(1, 44)), 0, 11},
		{"a place as great as the next one above", at(0, 11), over(1, 3, at(1, 13), 40, at(0, 15)), 0, 11},
	} {
		pages := three()
		pages[c.addr] = c.n
		h := one(t, pages)
		wantWrong(t, h.b, c.device, c.place)
		h.wantOpen(false)
	}
	// Just below the next place's it is right, and behind the last place, too.
	pages := three()
	pages[at(1, 13)] = leaf(3, at(1, 40), 19, at(1, 41))
	pages[at(0, 14)] = leaf(20, at(1, 43), 39, at(1, 44))
	one(t, pages).wantOpen(true)
	// Three levels below.
	h := laid(t, map[int]node.Node{
		at(0, 10): over(3, 1, at(0, 11), 9, at(0, 12)),
		at(0, 11): over(2, 1, at(0, 13)), at(0, 13): over(1, 1, at(0, 15)), at(0, 15): leaf(1, at(1, 2), 9, at(1, 3)),
		at(0, 12): over(2, 9, at(0, 14)), at(0, 14): over(1, 9, at(0, 16)), at(0, 16): leaf(9, at(1, 4)),
		at(0, 2): leaf(4, 1000, 5, at(0, 10)),
	}).root(at(0, 2))
	wantWrong(t, h.b, 0, 11)
	h.wantOpen(false)
	h.page(at(0, 15), leaf(1, at(1, 2), 8, at(1, 3)))
	h.wantOpen(true)
}
