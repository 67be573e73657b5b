package catalog_test

import (
	"maps"
	"slices"
	"testing"

	"portage/api"
	"portage/btree"
	"portage/catalog"
	"portage/node"
	"portage/roster"
	"portage/space"
)

// treeOf is a tree with these pairs, held once, whatever they tell.
func (w *world) treeOf(pairs map[int]int) int {
	w.Helper()
	root := 0
	for _, key := range slices.Sorted(maps.Keys(pairs)) {
		to, err := btree.Set(w.p, root, key, pairs[key])
		must(w.T, "Set", err)
		root = to
	}
	return root
}

// lay writes a node to an address of the devices, past the store.
func (w *world) lay(addr int, n node.Node) {
	w.Helper()
	data, err := n.Bytes()
	must(w.T, "Bytes", err)
	device, sector := space.At(addr)
	must(w.T, "Write", w.b.Write(device, sector, data))
}

// leaf is a node of the Level 0 with these keys, each with itself as value, but 1 for 0.
func leaf(keys ...int) node.Node {
	n := node.Node{Keys: keys}
	for _, key := range keys {
		n.Vals = append(n.Vals, max(key, 1))
	}
	return n
}

// refusesLoad demands that Load by another store tells this error, and no catalog.
func (w *world) refusesLoad(root int, want error) {
	w.Helper()
	other := over(w.T, w.b, w.s.Roster())
	c, err := catalog.Load(other.p, root)
	wantError(w.T, "Load", err, want)
	if c != nil {
		w.Fatalf("Load tells a catalog beside an error")
	}
}

// adoptError is what layer 11 answers if a tree is adopted by another store.
func (w *world) adoptError(root int) error {
	w.Helper()
	err := over(w.T, w.b, w.s.Roster()).p.Adopt(root)
	if err == nil {
		w.Fatalf("the tree %d can be adopted", root)
	}
	return err
}

func TestP13_3LoadNothing(t *testing.T) {
	w := made(t, 40)
	w.b.Arm(0)
	w.fill(0)
	before := w.tells()
	c, err := catalog.Load(w.p, 0)
	must(t, "Load", err)
	w.c = c
	w.wantList()
	wantSame(t, "Load", w.tells(), before)
	w = made(t, 40).another(0)
	w.put(many(9)...)
	w.save()
	w.wantSaved(many(9)...)
	w.wantOwn()
}

// rooted is a catalog with volumes that have trees: one of its own, one that two share wholly, one that shares pages with another, and none. All trees but the empty one are told, as often as volumes have them.
func rooted(t *testing.T) (*world, []int) {
	t.Helper()
	w := made(t, 90, 80)
	alone := w.tree(1)
	shared := w.tree(1, 2, 3, 4, 5, 6, 7, 8, 9, 10)
	for range 2 {
		must(t, "Hold", w.p.Hold(shared))
	}
	// Set takes one hold, so that two are left.
	like, err := btree.Set(w.p, shared, 10, 5)
	must(t, "Set", err)
	w.put(
		catalog.Volume{Id: 1, Size: 50, Root: shared},
		catalog.Volume{Id: 2, Size: 50},
		catalog.Volume{Id: 3, Size: 50, Root: shared, Origin: 1},
		catalog.Volume{Id: 40, Size: 60, Root: like, Origin: 3},
		catalog.Volume{Id: maxId, Size: api.MaxBlocks, Root: alone, Origin: maxId},
	)
	w.save()
	return w, []int{shared, shared, like, alone}
}

func TestP13_3Load(t *testing.T) {
	w, roots := rooted(t)
	w.wantOwn(roots...)
	w.s.Settle()
	other := w.another(w.c.Root())
	other.wantList(w.c.List()...)
	other.wantSaved(w.c.List()...)
	other.wantOwn(roots...)
	wantSame(t, "Load", other.tells(), w.tells())
	other.wantNoWrite("Save", other.c.Save)
	// What was loaded is not fresh, so it is given back when it goes, and free behind Settle.
	used := other.s.Used(0) + other.s.Used(1)
	other.remove(2)
	other.save()
	if now := other.s.Used(0) + other.s.Used(1); now <= used {
		t.Errorf("%d are used, and %d were", now, used)
	}
	other.wantSaved(other.c.List()...)
	other.wantOwn(roots...)
	other.wantNothingElse()
	for _, root := range roots {
		must(t, "Drop", other.p.Drop(root))
	}
	other.become(nil)
	other.save()
	other.wantOwn()
	other.wantNothingElse()
}

// TestP13_3LoadBySame loads a tree by the store that has it: it is held once more, and so are the volumes' trees.
func TestP13_3LoadBySame(t *testing.T) {
	w, roots := rooted(t)
	before := w.tells()
	c, err := catalog.Load(w.p, w.c.Root())
	must(t, "Load", err)
	other := &world{t, w.b, w.s, w.p, c}
	other.wantList(w.c.List()...)
	after := other.tells()
	for _, root := range append(slices.Clone(roots), w.c.Root()) {
		before.Holds[root]++
	}
	wantSame(t, "Load", after, before)
	other.remove(1, 2)
	if len(w.c.List()) != 5 {
		t.Errorf("List: %v", w.c.List())
	}
}

func TestP13_3LoadMany(t *testing.T) {
	for _, list := range turns() {
		w := made(t, 120)
		for i := range list {
			if list[i].Root != 0 {
				list[i].Root = w.tree(list[i].Id)
			}
		}
		w.put(list...)
		w.save()
		other := w.another(w.c.Root())
		other.wantList(list...)
		other.wantSaved(list...)
		var roots []int
		for _, v := range list {
			roots = append(roots, v.Root)
		}
		other.wantOwn(roots...)
	}
}

// TestP13_3NoNode loads addresses at which no node stands, or none can be read or marked: layer 11's error.
func TestP13_3NoNode(t *testing.T) {
	w := saved(t, many(1), 20, 20)
	w.refusesLoad(7, inPage(7, api.ErrNode))
	w.refusesLoad(1, inPage(1, api.ErrNode))
	for _, root := range edges {
		if device, _ := space.At(root); root != 0 && device != 0 {
			w.refusesLoad(root, w.adoptError(root))
		}
	}
	w.refusesLoad(2*api.MaxSectors+2, broken("read", 2*api.MaxSectors+2, api.ErrDevice))
	w.refusesLoad(api.MaxSectors+20, broken("read", api.MaxSectors+20, api.ErrRange))
	w.lay(1, leaf(4))
	w.refusesLoad(1, api.ErrRange)

	root := w.c.Root()
	other := over(t, w.b, w.s.Roster())
	must(t, "Mark", other.s.Mark(root))
	c, err := catalog.Load(other.p, root)
	wantError(t, "Load", err, api.ErrTaken)
	if c != nil {
		t.Error("Load tells a catalog beside an error")
	}
	device, sector := space.At(root)
	must(t, "Bad", w.b.Bad(device, sector, true))
	w.refusesLoad(root, broken("read", root, api.ErrRead))
	must(t, "Detach", w.b.Detach(device))
	w.refusesLoad(root, broken("read", root, api.ErrGone))
}

// TestP13_3NoPower loads without power.
func TestP13_3NoPower(t *testing.T) {
	w := saved(t, many(1), 20)
	w.b.Arm(0)
	w.b.Write(0, 9, make([]byte, api.Sector))
	if !w.b.Down() {
		t.Fatal("the power is not down")
	}
	w.refusesLoad(w.c.Root(), broken("read", w.c.Root(), api.ErrDown))
}

// TestP13_3BrokenTree loads trees of which a page below the root is none, or has another Level.
func TestP13_3BrokenTree(t *testing.T) {
	w := saved(t, full(), 100)
	last := slices.Max(btree.Pages(w.p, w.c.Root())) + 5
	w.lay(last, node.Node{Level: 1, Keys: []int{4, 8}, Vals: []int{last + 1, last + 2}})
	w.lay(last+1, leaf(4))
	w.refusesLoad(last, inPage(last+2, api.ErrNode))
	w.lay(last+2, node.Node{Level: 1, Keys: []int{8}, Vals: []int{last + 1}})
	w.refusesLoad(last, api.ErrNode)
	w.lay(last+2, leaf(8))
	w.another(last).wantList(catalog.Volume{Id: 1, Size: 4}, catalog.Volume{Id: 2, Size: 8})
	n, err := w.p.Get(w.c.Root())
	must(t, "Get", err)
	device, sector := space.At(n.Vals[1])
	must(t, "Write", w.b.Write(device, sector, make([]byte, api.Sector)))
	w.refusesLoad(w.c.Root(), inPage(n.Vals[1], api.ErrNode))
}

// TestP13_3NotRight loads trees whose keys do not stand as layer 12 asks: its error.
func TestP13_3NotRight(t *testing.T) {
	for name, nodes := range map[string][]node.Node{
		"a place's key is not the least one": {{Level: 1, Keys: []int{3, 8}, Vals: []int{11, 12}}, leaf(4), leaf(8)},
		"a key is not below the next place":  {{Level: 1, Keys: []int{4, 8}, Vals: []int{11, 12}}, leaf(4, 8), leaf(8)},
		"a page stands twice":                {{Level: 1, Keys: []int{4, 8}, Vals: []int{11, 11}}, leaf(4)},
		"all three":                          {{Level: 1, Keys: []int{3, 4}, Vals: []int{11, 11}}, leaf(4, 20)},
	} {
		w := made(t, 40)
		for i, n := range nodes {
			w.lay(10+i, n)
		}
		t.Log(name)
		w.refusesLoad(10, api.ErrNode)
	}
	// A tree that is deep and names each page seven times would have more pairs than could ever be told.
	w := made(t, 40)
	w.lay(3, leaf(0, 1, 2, 3, 4, 5, 6))
	for level := 1; level <= 20; level++ {
		n := node.Node{Level: level}
		for key := range 7 {
			n.Keys, n.Vals = append(n.Keys, key), append(n.Vals, 2+level)
		}
		w.lay(3+level, n)
	}
	w.refusesLoad(23, api.ErrNode)
}

// volumesIn are the volumes of pairs, as the chapter's words put it, false if there are none.
func volumesIn(pairs map[int]int) ([]catalog.Volume, bool) {
	var list []catalog.Volume
	for _, key := range slices.Sorted(maps.Keys(pairs)) {
		id := key / 4
		if _, is := pairs[4*id]; !is || key == 4*id+3 || id < 1 || id > maxId {
			return nil, false
		}
		if key == 4*id {
			list = append(list, catalog.Volume{Id: id, Size: pairs[4*id], Root: pairs[4*id+1], Origin: pairs[4*id+2]})
		}
	}
	for _, v := range list {
		if v.Size < 1 || v.Size > api.MaxBlocks || v.Root < 0 || v.Root > maxRoot || v.Origin < 0 || v.Origin > maxId {
			return nil, false
		}
	}
	return list, len(list) <= api.MaxVolumes
}

// wantLoads demands that a tree with these pairs is loaded, or not, as the chapter's words put it.
func (w *world) wantLoads(pairs map[int]int) {
	w.Helper()
	root := w.treeOf(pairs)
	if list, is := volumesIn(pairs); !is {
		w.refusesLoad(root, api.ErrNode)
	} else {
		other := w.another(root)
		other.wantList(list...)
		other.wantPairs(pairs)
	}
	if root != 0 {
		must(w.T, "Drop", w.p.Drop(root))
	}
}

func TestP13_3Pairs(t *testing.T) {
	for _, pairs := range []map[int]int{
		// A Size that lacks.
		{5: 3}, {6: 3}, {5: 3, 6: 3}, {4: 1, 9: 3}, {4: 1, 10: 3}, {4: 1, 9: 1, 12: 5}, {4: 1, 4*maxId + 1: 1},
		// A key that tells nothing.
		{7: 1}, {4: 1, 7: 1}, {4: 1, 6: 1, 7: 1}, {4: 1, 11: 1}, {4*maxId + 3: 2}, {4 * maxId: 2, 4*maxId + 3: 2},
		// The Id 0.
		{0: 5}, {1: 5}, {2: 5}, {3: 5}, {0: 5, 4: 5}, {0: 5, 2: 5}, {3: 5, 4: 5},
		// An Id past its end.
		{4*maxId + 4: 5}, {4*maxId + 4: 5, 4*maxId + 6: 1}, {4: 5, 4*maxId + 4: 5}, {4: 1, 1 << 40: 5}, {1<<40 - 4: 5},
		// A Size past its end, and at it.
		{4: api.MaxBlocks}, {4: api.MaxBlocks + 1}, {4: maxRoot}, {4: 1, 8: api.MaxBlocks + 1}, {4: 1 << 32}, {4: 1<<32 + 1},
		// An Origin past its end, and at it.
		{4: 1, 6: maxId}, {4: 1, 6: maxId + 1}, {4: 1, 6: maxRoot}, {4: 1, 8: 1, 10: maxId + 1}, {4: 1, 6: 1<<32 + 1},
		// All that may be.
		{4 * maxId: api.MaxBlocks, 4*maxId + 2: maxId}, {4: 1, 6: 1},
	} {
		made(t, 60).wantLoads(pairs)
	}
}

// TestP13_3SomePairs loads trees with each choice of some keys.
func TestP13_3SomePairs(t *testing.T) {
	w := made(t, 100)
	tree := w.tree(1, 2)
	keys := map[int]int{0: 5, 2: 5, 4: 5, 5: tree, 6: 3, 7: 1, 8: 5, 9: tree, 10: 9, 12: 5, 15: 1}
	all := slices.Sorted(maps.Keys(keys))
	for chosen := range 1 << len(all) {
		pairs := map[int]int{}
		for i, key := range all {
			if chosen>>i&1 == 1 {
				pairs[key] = keys[key]
			}
		}
		w.wantLoads(pairs)
		w.s.Settle()
	}
}

func TestP13_3Many(t *testing.T) {
	for _, count := range []int{31, 32, 33, 34, 100, 500} {
		pairs := map[int]int{}
		for i := range count {
			pairs[4*i+4] = 1
			pairs[4*i+6] = 1
		}
		made(t, 1000).wantLoads(pairs)
	}
}

// TestP13_3VolumesTrees loads volumes whose trees can't be adopted: layer 11's error, of the first one by rising Id.
func TestP13_3VolumesTrees(t *testing.T) {
	w := made(t, 200)
	good := w.tree(1, 2, 3)
	w.lay(150, node.Node{Level: 1, Keys: []int{1}, Vals: []int{151}})
	w.lay(152, node.Node{Level: 2, Keys: []int{1}, Vals: []int{good}})
	for _, bad := range []int{140, 1, 150, 152, 200, 4096, 7*api.MaxSectors + 2, 8 * api.MaxSectors, maxRoot} {
		w.refusesLoad(w.treeOf(map[int]int{4: 1, 5: bad}), w.adoptError(bad))
		w.refusesLoad(w.treeOf(map[int]int{4: 1, 5: good, 8: 1, 9: good, 12: 1, 13: bad, 16: 1, 17: good}), w.adoptError(bad))
		w.refusesLoad(w.treeOf(map[int]int{4: 1, 5: bad, 8: 1, 9: 141}), w.adoptError(bad))
		w.refusesLoad(w.treeOf(map[int]int{4: 1, 5: 141, 8: 1, 9: bad}), w.adoptError(141))
	}
	w.another(w.treeOf(map[int]int{4: 1, 5: good, 8: 1, 9: good})).wantList(catalog.Volume{Id: 1, Size: 1, Root: good}, catalog.Volume{Id: 2, Size: 1, Root: good})
}

// TestP13_3Steps demands that pairs which are not those of right volumes tell no trees to be adopted, and a tree that is not right no pairs.
func TestP13_3Steps(t *testing.T) {
	w := made(t, 60)
	w.refusesLoad(w.treeOf(map[int]int{4: 1, 5: 40, 7: 1}), api.ErrNode)
	w.refusesLoad(w.treeOf(map[int]int{4: 1, 5: 9000, 9: 9000}), api.ErrNode)
	w.lay(50, node.Node{Level: 1, Keys: []int{3}, Vals: []int{51}})
	w.lay(51, node.Node{Keys: []int{4, 5}, Vals: []int{1, 9000}})
	w.refusesLoad(50, api.ErrNode)
	w.refusesLoad(52, inPage(52, api.ErrNode))
}

// TestP13_3NotTheirs demands that Load does not ask whether the trees of the volumes are right: that is for those who use them.
func TestP13_3NotTheirs(t *testing.T) {
	w := made(t, 60)
	w.lay(50, node.Node{Level: 1, Keys: []int{3}, Vals: []int{51}})
	w.lay(51, leaf(4, 5))
	list := []catalog.Volume{{Id: 1, Size: 1, Root: 50}, {Id: 2, Size: 1, Root: 51, Origin: 9}}
	w.put(list...)
	w.save()
	other := w.another(w.c.Root())
	other.wantList(list...)
	if other.p.Holds(50) != 1 || other.p.Holds(51) != 2 {
		t.Errorf("Holds: %d, %d", other.p.Holds(50), other.p.Holds(51))
	}
}

// TestP13_3Anything loads from devices with any bytes in the pages of a tree: an error, or a catalog that was told by them.
func TestP13_3Anything(t *testing.T) {
	w, _ := rooted(t)
	root := w.c.Root()
	list := w.c.List()
	for _, addr := range w.p.Pages() {
		device, sector := space.At(addr)
		data, err := w.b.Read(device, sector)
		must(t, "Read", err)
		for i := range data {
			changed := slices.Clone(data)
			changed[i] ^= 1 << (i % 8)
			must(t, "Write", w.b.Write(device, sector, changed))
			w.refusesLoad(root, inPage(addr, api.ErrNode))
		}
		must(t, "Write", w.b.Write(device, sector, data))
	}
	w.another(root).wantList(list...)
}

// TestP13_3Draining loads where a device of the tree is being left.
func TestP13_3Draining(t *testing.T) {
	list := full()
	for i := range list {
		list[i].Root = 0
	}
	w := spread(t, list)
	other := w.another(w.c.Root())
	other.wantList(list...)
	other.leave(0)
	if len(other.on(0)) != 0 {
		t.Errorf("%v are on the device still", other.on(0))
	}
	other.wantSaved(list...)
	// A device that is no member any more has no address in the room.
	r := roster.Roster{List: []roster.Entry{{State: api.Removed, Size: 100}, {State: api.Active, Size: 100}}}
	removed := over(t, w.b, r)
	_, err := catalog.Load(removed.p, w.on(0)[0])
	wantError(t, "Load", err, api.ErrRange)
}
