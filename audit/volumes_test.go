package audit_test

import (
	"testing"

	"portage/api"
	"portage/audit"
	"portage/node"
	"portage/pool"
	"portage/space"
)

// reportOf is the report of a pool of a generation that has no volumes, with so many entries.
func reportOf(gen, count int) audit.Report {
	return audit.Report{Gen: gen, On: make([]audit.Count, count)}
}

// wantOpen demands that layer 19 opens the pool, or does not, and that the audit agrees. The devices are as they were behind it, but for superblocks.
func (h hand) wantOpen(isRight bool) {
	h.Helper()
	if sound := audit.Sound(h.b); sound != isRight {
		_, err := audit.Audit(h.b)
		h.Fatalf("Sound: %t: %v", sound, err)
	}
	if _, err := pool.Open(h.b); (err == nil) != isRight {
		h.Fatalf("Open: %v, and Sound tells %t", err, isRight)
	}
}

// tree lays pairs as a tree of leaves and pages above them, from a sector of the device 1 on, and tells its root.
func (h hand) tree(sector int, pairs ...int) int {
	h.Helper()
	for level := 0; ; level++ {
		var upper []int
		for from := 0; from < len(pairs); from += 14 {
			addr := at(1, sector)
			h.page(addr, over(level, pairs[from:min(from+14, len(pairs))]...))
			upper = append(upper, pairs[from], addr)
			sector++
		}
		if len(upper) == 2 {
			return upper[1]
		}
		pairs = upper
	}
}

// TestP22_1Catalog has catalogs whose pairs are those of right volumes, and such whose are not: then -1 and 0 are told.
func TestP22_1Catalog(t *testing.T) {
	const maxId, maxSize = 1 << 20, 1 << 20
	for _, c := range []struct {
		isRight bool
		pairs   []int
	}{
		{true, []int{4, 1}},
		{true, []int{4, maxSize}},
		{true, []int{4 * maxId, 1}},
		{true, []int{4, 9, 6, 1}},
		{true, []int{4, 9, 6, maxId}},
		{true, []int{4, 9, 8, 9, 10, 1}},
		{true, []int{4, 9, 6, 77, 4 * maxId, 1, 4*maxId + 2, maxId}},
		{false, []int{0, 9}},
		{false, []int{1, at(1, 40)}},
		{false, []int{2, 9}},
		{false, []int{3, 9}},
		{false, []int{0, 9, 4, 9}},
		{false, []int{4, maxSize + 1}},
		{false, []int{4, 1 << 61}},
		{false, []int{5, at(1, 40)}},
		{false, []int{6, 1}},
		{false, []int{7, 1}},
		{false, []int{4, 9, 7, 1}},
		{false, []int{4, 9, 6, 1, 7, 1}},
		{false, []int{4, 9, 6, maxId + 1}},
		{false, []int{4, 9, 6, 1 << 61}},
		{false, []int{4, 9, 9, at(1, 40)}},
		{false, []int{4, 9, 10, 1}},
		{false, []int{4, 9, 11, 1}},
		{false, []int{4, 9, 8, 9, 14, 1}},
		{false, []int{4*maxId + 3, 1}},
		{false, []int{4 * (maxId + 1), 1}},
		{false, []int{4, 9, 4 * (maxId + 1), 9}},
		{false, []int{4, 9, 4 * (maxId + 1), 9, 4*(maxId+1) + 2, 1}},
		{false, []int{1 << 40, 9}},
	} {
		h := laid(t, map[int]node.Node{at(1, 40): leaf(0, at(1, 41))})
		h.root(h.tree(2, c.pairs...))
		if !c.isRight {
			wantWrong(t, h.b, -1, 0)
		}
		h.wantOpen(c.isRight)
	}
}

// TestP22_1Many has catalogs of many volumes: MaxVolumes, and one more.
func TestP22_1Many(t *testing.T) {
	for count := 1; count <= 50; count++ {
		var pairs []int
		for id := 1; id <= count; id++ {
			pairs = append(pairs, 4*id, 9)
		}
		h := laid(t, nil)
		h.root(h.tree(2, pairs...))
		if count > api.MaxVolumes {
			wantWrong(t, h.b, -1, 0)
			h.wantOpen(false)
			continue
		}
		if r := audited(t, h.b); r.Volumes != count || r.Mapped != 0 || r.Levels != len(levelsOf(count)) {
			t.Fatalf("Audit: %+v of %d volumes", r, count)
		}
		h.wantOpen(true)
	}
}

// levelsOf are how many pages each level has of a tree of so many pairs that hand lays.
func levelsOf(count int) []int {
	var list []int
	for {
		count = (count + 6) / 7
		list = append(list, count)
		if count == 1 {
			return list
		}
	}
}

// TestP22_1Blocks has keys that are no blocks of their volume.
func TestP22_1Blocks(t *testing.T) {
	for _, size := range []int{1, 2, 7, 1000, 1 << 20} {
		for _, key := range []int{size - 1, size, size + 1, 1 << 40} {
			h := laid(t, map[int]node.Node{
				at(0, 2):  leaf(4, size, 5, at(0, 10), 8, 1<<20),
				at(0, 10): leaf(key, at(1, 40)),
			}).root(at(0, 2))
			if key >= size {
				wantWrong(t, h.b, 0, 10)
			}
			h.wantOpen(key < size)
		}
	}
	// In a leaf of a high tree, and of a tree that is right for a greater volume.
	h := one(t, three())
	h.page(at(0, 2), leaf(4, 1000, 5, at(0, 10), 8, 999, 9, at(0, 10)))
	wantWrong(t, h.b, 0, 16)
	h.wantOpen(false)
	h.page(at(0, 2), leaf(4, 999, 5, at(0, 10), 8, 1000, 9, at(0, 10)))
	wantWrong(t, h.b, 0, 16)
	h.wantOpen(false)
	h.page(at(0, 2), leaf(4, 1000, 5, at(0, 10), 8, 1001, 9, at(0, 10)))
	h.wantOpen(true)
}

// TestP22_1Values has blocks at addresses that are not in the room.
func TestP22_1Values(t *testing.T) {
	for _, addr := range outside() {
		if addr == 0 {
			// It is no value of a node.
			continue
		}
		h := hand{t, banked(t, 50, 50, 50, 50, 50)}
		h.page(at(0, 2), leaf(4, 9, 5, at(1, 3)))
		h.page(at(1, 3), over(1, 1, at(1, 4), 4, at(1, 5)))
		h.page(at(1, 4), leaf(1, at(3, 2)))
		h.page(at(1, 5), leaf(4, at(0, 3), 6, addr))
		h.four(at(0, 2)).wantOpen(false)
		device, sector := space.At(addr)
		wantWrong(t, h.b, device, sector)
	}
	for _, addr := range []int{at(0, 3), at(0, 39), at(1, 2), at(1, 44), at(3, 2)} {
		h := hand{t, banked(t, 50, 50, 50, 50, 50)}
		h.page(at(0, 2), leaf(4, 9, 5, at(1, 3)))
		h.page(at(1, 3), leaf(4, addr, 6, addr))
		h.four(at(0, 2)).wantOpen(true)
		if r := audited(t, h.b); r.Mapped != 2 || r.Data != 1 {
			t.Fatalf("Audit: %+v", r)
		}
	}
}

// TestP22_1Both has addresses that are a page and a block's, of one volume, of two, and of the catalog.
func TestP22_1Both(t *testing.T) {
	pages := three()
	for addr := range three() {
		// Its own tree has it.
		pages[at(0, 16)] = leaf(60, addr)
		h := one(t, pages)
		wantWrong(t, h.b, addr/api.MaxSectors, addr%api.MaxSectors)
		h.wantOpen(false)
		// Another volume has it, ahead of this one or behind it.
		for _, catalog := range []node.Node{
			leaf(4, 1000, 5, at(0, 10), 8, 9, 9, at(1, 30)),
			leaf(4, 9, 5, at(1, 30), 8, 1000, 9, at(0, 10)),
		} {
			h := one(t, three())
			h.page(at(1, 30), leaf(0, addr))
			h.page(at(0, 2), catalog)
			wantWrong(t, h.b, addr/api.MaxSectors, addr%api.MaxSectors)
			h.wantOpen(false)
			h.page(at(1, 30), leaf(0, at(1, 31)))
			h.wantOpen(true)
		}
	}
	pages = three()
	pages[at(0, 16)] = leaf(60, at(0, 2))
	h := one(t, pages)
	wantWrong(t, h.b, 0, 2)
	h.wantOpen(false)
	// The catalog's tree is a volume's: what its Root tells is a page.
	h = laid(t, map[int]node.Node{at(0, 2): leaf(4, 9, 5, at(0, 2))}).root(at(0, 2))
	wantSomewhere(t, h)
	// A leaf of the catalog tells a Root, and is a tree itself.
	h = laid(t, map[int]node.Node{
		at(0, 2): over(1, 4, at(0, 3), 8, at(0, 4)),
		at(0, 3): leaf(4, 100, 5, at(0, 4)),
		at(0, 4): leaf(8, 30, 9, at(0, 5)),
		at(0, 5): leaf(0, at(0, 40)),
	}).root(at(0, 2))
	wantWrong(t, h.b, 0, 5)
	h.wantOpen(false)
}

// wantSomewhere demands that something is wrong, wherever.
func wantSomewhere(t *testing.T, h hand) {
	t.Helper()
	refused(t, h.b)
	h.wantOpen(false)
}

// TestP22_1Rings has pages that name themselves, or one another.
func TestP22_1Rings(t *testing.T) {
	for level := 1; level <= 20; level++ {
		for ring := 1; ring <= 5; ring++ {
			h := laid(t, nil)
			for i := range ring {
				h.page(at(0, 10+i), over(max(level-i, 1), 4, at(0, 10+(i+1)%ring)))
			}
			// The catalog's own tree.
			wantSomewhere(t, h.root(at(0, 10)))
			// A volume's.
			h.page(at(0, 2), leaf(4, 1000, 5, at(0, 10)))
			wantSomewhere(t, h.root(at(0, 2)))
			// Somewhere below a right place.
			h.page(at(0, 3), leaf(1, at(1, 40)))
			h.page(at(0, 4), over(min(level+1, 20), 1, at(0, 3), 4, at(0, 10)))
			h.page(at(0, 2), leaf(4, 1000, 5, at(0, 4)))
			wantSomewhere(t, h)
		}
	}
}

// TestP22_1Often has trees in which each page names the one below it seven times, so that there are more ways down than could ever be gone.
func TestP22_1Often(t *testing.T) {
	for _, rising := range []bool{false, true} {
		h := laid(t, map[int]node.Node{at(0, 30): leaf(4, 9)})
		for level := 1; level <= 20; level++ {
			n := node.Node{Level: level}
			for i := range 7 {
				key := 4 + i
				if rising {
					key = 4 + i*7<<level
				}
				n.Keys, n.Vals = append(n.Keys, key), append(n.Vals, at(0, 31-level))
			}
			h.page(at(0, 30-level), n)
		}
		wantSomewhere(t, h.root(at(0, 10)))
		h.page(at(1, 2), leaf(4, 1000, 5, at(0, 10)))
		wantSomewhere(t, h.root(at(1, 2)))
	}
}

// TestP22_1Long has a chain of as many pages as there may be, each of which names the next one.
func TestP22_1Long(t *testing.T) {
	var sizes []int
	for range api.MaxDevices {
		sizes = append(sizes, api.MaxSectors)
	}
	h := hand{t, banked(t, sizes...)}
	var chain []int
	for device := range sizes {
		for sector := api.Slots; sector < api.MaxSectors; sector++ {
			chain = append(chain, at(device, sector))
		}
	}
	for i, addr := range chain {
		h.page(addr, over(1, 4, chain[(i+1)%len(chain)]))
	}
	list := entries()
	for range sizes {
		list = append(list, entries(api.Active, api.MaxSectors)...)
	}
	wantSomewhere(t, h.super(chain[0], list...))
}

// TestP22_1Shared has many volumes that have one great tree in common: each address is told once, each pair for each volume.
func TestP22_1Shared(t *testing.T) {
	w := made(t, 4000, 4000)
	must(t, "Create", w.p.Create(1, 3000))
	w.write(1, 0, span(1, 3000)...)
	for id := 2; id <= api.MaxVolumes; id++ {
		must(t, "Snapshot", w.p.Snapshot(id, 1))
	}
	r := audited(t, w.b)
	if r.Volumes != api.MaxVolumes || r.Mapped != 3000*api.MaxVolumes || r.Data != 3000 {
		t.Fatalf("Audit: %+v", r)
	}
	w.wantInfo()
}
