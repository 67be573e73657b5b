package pages_test

import (
	"errors"
	"slices"
	"testing"

	"portage/api"
	"portage/fault"
	"portage/node"
	"portage/pages"
	"portage/roster"
)

func (w *world) adopt(addrs ...int) {
	w.Helper()
	for _, addr := range addrs {
		must(w.T, "Adopt", w.p.Adopt(addr))
	}
}

// refusesAdopt demands that Adopt tells this error, and changes nothing, neither in the store nor in the space.
func (w *world) refusesAdopt(addr int, want error) {
	w.Helper()
	w.refuses("Adopt", want, func() error { return w.p.Adopt(addr) })
}

// wantNodes demands that the pages are the same nodes that another store knows at these addresses.
func (w *world) wantNodes(other *world) {
	w.Helper()
	for _, addr := range w.p.Pages() {
		n, err := other.p.Get(addr)
		must(w.T, "Get", err)
		w.wantGet(addr, n)
	}
}

// planted is a store over two devices with a tree of three Levels at 5, of which some is shared, and one of two Levels at 4102 that shares something with it.
func planted(t *testing.T) *world {
	t.Helper()
	w := made(t, 10, 10)
	w.put(2, leaf(1))
	w.put(4098, leaf(2, 5))
	w.put(3, leaf(3))
	w.put(4099, numbered(1, 2, 4098))
	w.put(4, numbered(1, 4098, 3))
	w.put(4100, leaf(1, 2, 3, 4, 5, 6, 7))
	w.put(5, numbered(2, 4099, 4))
	w.put(4101, leaf(9))
	w.put(6, leaf(10))
	w.put(4102, numbered(1, 4101, 3, 4098))
	w.wantHolds(holds{2: 1, 3: 2, 4: 1, 5: 0, 6: 0, 4098: 3, 4099: 1, 4100: 0, 4101: 1, 4102: 0})
	return w
}

// inTree are the holds of the tree at 5 of planted, adopted once.
func inTree() holds { return holds{2: 1, 3: 1, 4: 1, 5: 1, 4098: 2, 4099: 1} }

func TestP11_3AdoptKnown(t *testing.T) {
	w := leveled(t)
	w.adopt(9, 9, 2)
	w.wantHolds(holds{2: 3, 3: 2, 4: 2, 5: 1, 6: 0, 7: 0, 8: 0, 9: 2})
	// It is dropped as what was held is.
	w.hold(9)
	w.drop(2, 9, 9)
	w.refuses("Drop", api.ErrBusy, func() error { return w.p.Drop(2) })
	w.wantHolds(holds{2: 2, 3: 2, 4: 2, 5: 1, 6: 0, 7: 0, 8: 0, 9: 1})
	w.refuses("Scrap", api.ErrBusy, func() error { return w.p.Scrap(9) })
	w.drop(9)
	w.wantHolds(holds{2: 2, 3: 2, 4: 1, 5: 1, 6: 0, 7: 0, 8: 0})
}

// TestP11_3AdoptKnownUnread adopts a page that is known, and cannot be read: no device is asked.
func TestP11_3AdoptKnownUnread(t *testing.T) {
	w := leveled(t)
	must(t, "Bad", w.b.Bad(0, 9, true))
	w.adopt(9)
	w.lay(8, make([]byte, api.Sector))
	w.adopt(8)
	must(t, "Detach", w.b.Detach(0))
	w.adopt(5)
	w.wantHolds(holds{2: 2, 3: 2, 4: 2, 5: 2, 6: 0, 7: 0, 8: 1, 9: 1})
}

func TestP11_3AdoptTree(t *testing.T) {
	w := planted(t)
	done := w.b.Done()
	q := w.another()
	q.adopt(5)
	q.wantHolds(inTree())
	q.wantNodes(w)
	if got := q.all(); len(got.Fresh) != 0 || len(got.Held) != 1 || got.Held[5] != 1 || got.Free != 10 {
		t.Errorf("%+v", got)
	}
	if w.b.Done() != done {
		t.Errorf("Adopt writes: %d", w.b.Done()-done)
	}
	// Those below it are named, but were not held.
	for _, addr := range []int{2, 3, 4, 4098, 4099} {
		q.refuses("Drop", api.ErrBusy, func() error { return q.p.Drop(addr) })
		q.refuses("Scrap", api.ErrBusy, func() error { return q.p.Scrap(addr) })
	}
	q.drop(5)
	q.wantHolds(holds{})
	if q.s.Used(0) != 4 || q.s.Used(1) != 2 || q.s.Settle() != 6 {
		t.Errorf("what was marked is not given back")
	}
	q.adopt(5)
	q.wantHolds(inTree())
}

// TestP11_3AdoptLeaf adopts a page alone, and others that are new behind it.
func TestP11_3AdoptLeaf(t *testing.T) {
	w := planted(t)
	q := w.another()
	q.adopt(4100)
	q.wantHolds(holds{4100: 1})
	q.adopt(2)
	q.wantHolds(holds{2: 1, 4100: 1})
	q.wantNodes(w)
	q.put(3, numbered(1, 4100, 2)) // over the leaf that stands there, which nobody knows
	q.wantHolds(holds{2: 2, 3: 0, 4100: 2})
	q.wantGet(3, numbered(1, 4100, 2))
}

// TestP11_3AdoptShared adopts trees that share pages with those that are known.
func TestP11_3AdoptShared(t *testing.T) {
	w := planted(t)
	q := w.another()
	q.adopt(5, 4102)
	both := holds{2: 1, 3: 2, 4: 1, 5: 1, 4098: 3, 4099: 1, 4101: 1, 4102: 1}
	q.wantHolds(both)
	q.wantNodes(w)
	q = w.another()
	q.adopt(4102, 5)
	q.wantHolds(both)
	q.adopt(5, 4098)
	both[5]++
	both[4098]++
	q.wantHolds(both)
	q.drop(4098, 5, 4102)
	q.wantHolds(inTree())
	// What is adopted by itself first has that hold beside those of the tree.
	q = w.another()
	q.adopt(4098, 4, 5)
	q.wantHolds(holds{2: 1, 3: 1, 4: 2, 5: 1, 4098: 3, 4099: 1})
	q.drop(5)
	q.wantHolds(holds{3: 1, 4: 1, 4098: 2})
	q.drop(4)
	q.wantHolds(holds{4098: 1})
}

// TestP11_3AdoptTwice adopts nodes that name an address at several places.
func TestP11_3AdoptTwice(t *testing.T) {
	w := made(t, 20)
	w.layNode(2, leaf(1))
	w.layNode(3, numbered(1, 2, 2, 2))
	w.layNode(4, numbered(2, 3, 3))
	w.adopt(4)
	w.wantHolds(holds{2: 3, 3: 2, 4: 1})
	w.drop(4)
	w.wantHolds(holds{})
}

// TestP11_3AdoptLevels adopts a tree of all Levels.
func TestP11_3AdoptLevels(t *testing.T) {
	w := made(t, 40)
	w.layNode(39, leaf(1))
	want := holds{39: 1}
	for level := 1; level <= levels; level++ {
		w.layNode(39-level, numbered(level, 40-level))
		want[39-level] = 1
	}
	w.adopt(39 - levels)
	w.wantHolds(want)
}

// TestP11_3AdoptLeafValues adopts a leaf whose values would be addresses of something: they are just numbers.
func TestP11_3AdoptLeafValues(t *testing.T) {
	w := made(t, 10)
	w.layNode(2, leaf(2, 3, 4, 1<<61))
	w.layNode(3, leaf(1))
	w.adopt(2)
	w.wantHolds(holds{2: 1})
}

// TestP11_3AdoptDraining adopts on a device on which nothing new is taken, and on one that is Removed.
func TestP11_3AdoptDraining(t *testing.T) {
	w := planted(t)
	r := rostered(10, 10)
	r.List[0].State = api.Draining
	q := over(t, w.b, r)
	q.adopt(5)
	q.wantHolds(inTree())
	r.List[0].State = api.Removed
	q = over(t, w.b, r)
	q.refusesAdopt(5, api.ErrRange)
	q.refusesAdopt(4099, api.ErrRange)
	q.adopt(4100)
	q.wantHolds(holds{4100: 1})
}

// noNodes are sectors in which no node stands.
func noNodes() [][]byte {
	list := [][]byte{
		make([]byte, api.Sector), slices.Repeat([]byte{255}, api.Sector), framed(2, nil), framed(2, []byte{0, 0}), framed(2, []byte{0, 1}),
		framed(1, encoded(leaf(1))[2:20]), framed(3, encoded(leaf(1))[2:20]), framed(2, append(encoded(leaf(1))[2:20], 0)),
		encoded(numbered(levels+1, 2)), encoded(leaf(0)), encoded(leaf(1<<61 + 1)), encoded(node.Node{Keys: []int{2, 1}, Vals: []int{1, 1}}), encoded(node.Node{Keys: []int{1<<40 + 1}, Vals: []int{1}}),
	}
	for _, bit := range []int{0, 7, 8, 100, 500, 8*api.Sector - 1} {
		turned := encoded(numbered(1, 2))
		turned[bit/8] ^= 1 << (bit % 8)
		list = append(list, turned)
	}
	return list
}

func TestP11_3AdoptNoNode(t *testing.T) {
	w := planted(t)
	q := w.another()
	q.adopt(4102)
	for _, sector := range noNodes() {
		w.lay(7, sector)
		q.refusesAdopt(7, inPage(7, api.ErrNode))
		// Deep in a tree, behind something that is new and something that is known.
		w.layNode(8, numbered(1, 2, 3, 7))
		w.layNode(9, numbered(2, 4099, 4102, 8))
		q.refusesAdopt(8, inPage(7, api.ErrNode))
		q.refusesAdopt(9, inPage(7, api.ErrNode))
	}
	q.refusesAdopt(4104, inPage(4104, api.ErrNode)) // nothing was ever written there
	q.adopt(5)
	q.wantHolds(holds{2: 1, 3: 2, 4: 1, 5: 1, 4098: 3, 4099: 1, 4101: 1, 4102: 1})
}

func TestP11_3AdoptOtherLevel(t *testing.T) {
	w := planted(t)
	q := w.another()
	q.adopt(4102)
	for _, n := range []node.Node{
		numbered(1, 4099), numbered(1, 5), numbered(1, 2, 3, 4102), numbered(1, 4102), numbered(1, 4102, 2), // one of the same Level, and one above it
		numbered(2, 2), numbered(2, 4, 3), numbered(2, 4101), numbered(2, 4, 4102, 4098), numbered(2, 5), // two less, and the same
		numbered(3, 4), numbered(3, 5, 4102), numbered(levels, 5), numbered(3, 2), numbered(4, 5),
		numbered(1, 7), numbered(2, 7), numbered(levels, 7), numbered(1, 2, 7, 3), // itself
		numbered(1, 8), numbered(3, 8), numbered(4, 8), numbered(4, 9), // those that name it
	} {
		w.layNode(7, n)
		w.layNode(8, numbered(n.Level+1, 7))
		w.layNode(9, numbered(n.Level+2, 8, 8))
		q.refusesAdopt(7, api.ErrNode)
		if n.Level+2 <= levels {
			q.refusesAdopt(8, api.ErrNode)
			q.refusesAdopt(9, api.ErrNode)
		}
	}
}

// TestP11_3AdoptRings adopts nodes that name one another in a ring.
func TestP11_3AdoptRings(t *testing.T) {
	for size := 1; size <= 7; size++ {
		for level := 1; level <= 3; level++ {
			w := made(t, 10)
			for i := range size {
				w.layNode(2+i, numbered(level+i%2, 2+(i+1)%size))
			}
			for i := range size {
				w.refusesAdopt(2+i, api.ErrNode)
			}
		}
	}
}

// TestP11_3AdoptLongWay adopts nodes of one Level that name each the next one, over all sectors that there can be.
func TestP11_3AdoptLongWay(t *testing.T) {
	w := made(t, slices.Repeat([]int{api.MaxSectors}, api.MaxDevices)...)
	all := w.everywhere()
	last := len(all) - 1
	w.layNode(all[last], leaf(1))
	next := all[last]
	for _, addr := range slices.Backward(all[:last]) {
		if addr%api.MaxSectors >= api.Slots {
			w.layNode(addr, numbered(1+addr%2, next))
			next = addr
		}
	}
	before := w.tells()
	wantError(t, "Adopt", w.p.Adopt(next), api.ErrNode)
	wantSame(t, "Adopt", w.tells(), before)
	w.lay(all[last], make([]byte, api.Sector))
	wantError(t, "Adopt", w.p.Adopt(next), inPage(all[last], api.ErrNode))
	wantSame(t, "Adopt", w.tells(), before)
}

// TestP11_3AdoptRefusedBySpace adopts what is not in the room, or not free.
func TestP11_3AdoptRefusedBySpace(t *testing.T) {
	w := over(t, banked(t, 10, 10, 10), rostered(10, 8))
	for _, addr := range []int{0, 1, 4096, 4097, 4104, 4105, 8194} {
		w.layNode(addr, leaf(5))
		w.refusesAdopt(addr, api.ErrRange)
		w.layNode(2, leaf(1))
		if addr > 0 {
			w.layNode(3, numbered(1, 2, addr, 2))
			w.layNode(4, numbered(2, 3))
			w.refusesAdopt(3, api.ErrRange)
			w.refusesAdopt(4, api.ErrRange)
		}
	}
	// What is fresh, marked and given back is not free.
	for _, addr := range []int{5, 6, 7} {
		must(t, "Mark", w.s.Mark(addr))
	}
	must(t, "Give", w.s.Give(7))
	for addr, err := w.s.Take(); addr != 9; addr, err = w.s.Take() {
		must(t, "Take", err)
	}
	for _, addr := range []int{5, 6, 7, 9, 4100} {
		w.layNode(addr, leaf(5))
		w.layNode(4101, numbered(1, 4103, addr))
		w.layNode(4102, numbered(2, 4101))
		w.layNode(4103, leaf(7))
		for taken := 4101; taken <= 4103; taken++ {
			w.s.Give(taken)
		}
		w.refusesAdopt(addr, api.ErrTaken)
		w.refusesAdopt(4101, api.ErrTaken)
		w.refusesAdopt(4102, api.ErrTaken)
	}
	w.s.Settle()
	w.adopt(7)
}

// TestP11_3AdoptGoneBack adopts what is gone: its address is given back, and free behind Settle alone.
func TestP11_3AdoptGoneBack(t *testing.T) {
	w := planted(t)
	q := w.another()
	q.adopt(4102)
	q.drop(4102)
	q.refusesAdopt(4102, api.ErrTaken)
	q.refusesAdopt(5, api.ErrTaken)
	q.s.Settle()
	q.adopt(4102, 5)
}

func TestP11_3AdoptBroken(t *testing.T) {
	// A sector that is bad.
	for _, bad := range []int{5, 4, 3, 4098, 2} {
		w := planted(t)
		q := w.another()
		device, sector := bad/api.MaxSectors, bad%api.MaxSectors
		must(t, "Bad", w.b.Bad(device, sector, true))
		q.refusesAdopt(5, broken("read", bad, api.ErrRead))
		q.refusesAdopt(bad, broken("read", bad, api.ErrRead))
		q.adopt(4100)
		q.refusesAdopt(5, broken("read", bad, api.ErrRead))
		must(t, "Bad", w.b.Bad(device, sector, false))
		q.adopt(5)
		want := inTree()
		want[4100] = 1
		q.wantHolds(want)
	}
	// A device that is detached: of the tree at 5 the first one that is there is 4099.
	w := planted(t)
	q := w.another()
	q.adopt(4100)
	must(t, "Detach", w.b.Detach(1))
	q.refusesAdopt(5, broken("read", 4099, api.ErrGone))
	q.refusesAdopt(4, broken("read", 4098, api.ErrGone))
	q.refusesAdopt(4102, broken("read", 4102, api.ErrGone))
	q.adopt(4100, 3)
	// A power that is down.
	w = planted(t)
	q = w.another()
	q.adopt(3)
	w.b.Arm(0)
	w.b.Flush(0)
	q.refusesAdopt(5, broken("read", 5, api.ErrDown))
	q.refusesAdopt(-7, broken("read", -7, api.ErrDown))
	q.adopt(3)
	q.wantHolds(holds{3: 2})
	w.b.Crash(slices.Repeat([]int{1}, 20)...)
	q.adopt(5)
}

func TestP11_3AdoptNowhere(t *testing.T) {
	w := planted(t)
	q := w.another()
	q.adopt(3)
	for _, addr := range append([]int{2*api.MaxSectors + 2, 7*api.MaxSectors + 4095}, nowhere...) {
		q.refusesAdopt(addr, broken("read", addr, api.ErrDevice))
		if addr > 0 && addr <= 1<<61 {
			w.layNode(7, numbered(1, 2, 3, addr))
			q.refusesAdopt(7, broken("read", addr, api.ErrDevice))
		}
	}
	for _, addr := range []int{10, 4095, 4106, 8191} {
		q.refusesAdopt(addr, broken("read", addr, api.ErrRange))
		w.layNode(7, numbered(1, 2, 3, addr))
		q.refusesAdopt(7, broken("read", addr, api.ErrRange))
	}
}

// TestP11_3AdoptOrder demands which error is told, where several would be.
func TestP11_3AdoptOrder(t *testing.T) {
	// The device that the space does not have is at 8192; of the sectors there 2 is no node's, 3 a leaf's, and 4 is bad.
	w := over(t, banked(t, 20, 20, 10), rostered(20, 20))
	noNode, noRoom, bad, taken, good := 8194, 8195, 8196, 19, 18
	otherLevel := 17
	w.layNode(noRoom, leaf(1))
	w.layNode(taken, leaf(1))
	w.layNode(good, leaf(1))
	w.layNode(otherLevel, numbered(3, 16))
	w.layNode(16, numbered(2, 15))
	w.layNode(15, numbered(1, good))
	must(t, "Mark", w.s.Mark(taken))
	must(t, "Bad", w.b.Bad(2, 4, true))
	errorOf := map[int]error{noNode: inPage(noNode, api.ErrNode), noRoom: api.ErrRange, bad: broken("read", bad, api.ErrRead), taken: api.ErrTaken}
	for addr, want := range errorOf {
		w.refusesAdopt(addr, want)
	}
	// Of several that are named the first one counts, also if it stands deeper; and what is below one comes ahead of the next one.
	for first, want := range errorOf {
		for second := range errorOf {
			w.layNode(2, numbered(1, good, first, second))
			w.layNode(3, numbered(1, good, second))
			w.layNode(4, numbered(2, 2, 3))
			w.refusesAdopt(2, want)
			w.refusesAdopt(4, want)
			w.layNode(4, numbered(2, 2, second))
			w.refusesAdopt(4, want)
		}
		// All that is named is adopted ahead of the Levels' being held against each other.
		w.layNode(2, numbered(1, otherLevel, first))
		w.refusesAdopt(2, want)
		w.layNode(2, numbered(1, first, otherLevel))
		w.refusesAdopt(2, want)
		w.layNode(4, numbered(2, 16, good, 2))
		w.refusesAdopt(4, want)
		// One whose Level does not fit deeper down comes ahead of the next one.
		w.layNode(2, numbered(1, otherLevel))
		w.layNode(4, numbered(2, 2, first))
		w.refusesAdopt(4, api.ErrNode)
		// What is below one of another Level comes ahead of that.
		w.layNode(2, numbered(3, 3))
		w.layNode(3, numbered(1, first))
		w.refusesAdopt(2, want)
	}
	// A sector is read ahead of its being marked: a slot in which no node stands, and a taken one that is bad.
	w.refusesAdopt(0, inPage(0, api.ErrNode))
	w.lay(taken, make([]byte, api.Sector))
	w.refusesAdopt(taken, inPage(taken, api.ErrNode))
	must(t, "Bad", w.b.Bad(0, taken, true))
	w.refusesAdopt(taken, broken("read", taken, api.ErrRead))
}

// TestP11_3Faults finds faults and codes by the standard calls.
func TestP11_3Faults(t *testing.T) {
	w := made(t, 10)
	w.layNode(3, numbered(1, 4))
	var f *fault.Fault
	err := w.p.Adopt(3)
	if !errors.Is(err, api.ErrNode) || !errors.As(err, &f) || f.Op != "page" || f.Device != 0 || f.Place != 4 || fault.Depth(err) != 1 {
		t.Errorf("%v", err)
	}
	must(t, "Bad", w.b.Bad(0, 4, true))
	err = w.p.Adopt(3)
	if !errors.Is(err, api.ErrRead) || !slices.Equal(fault.Path(err), []string{"page", "read"}) || err.Error() != "page 0:4: read 0:4: portage: error 21" {
		t.Errorf("%v", err)
	}
	must(t, "Bad", w.b.Bad(0, 4, false))
	w.layNode(4, numbered(1, 3))
	if err = w.p.Adopt(3); !errors.Is(err, api.ErrNode) || errors.As(err, &f) {
		t.Errorf("%v", err)
	}
	w.layNode(4, leaf(1))
	must(t, "Mark", w.s.Mark(4))
	if err = w.p.Adopt(3); !errors.Is(err, api.ErrTaken) || errors.As(err, &f) {
		t.Errorf("%v", err)
	}
}

// TestP11_3AdoptWritten adopts what the device tells, be it flushed or not, and what a crash left.
func TestP11_3AdoptWritten(t *testing.T) {
	w := made(t, 10)
	w.layNode(2, leaf(1))
	must(t, "Flush", w.b.Flush(0))
	w.layNode(2, leaf(2))
	q := w.another()
	q.adopt(2)
	q.wantGet(2, leaf(2))
	w.b.Crash(0)
	q.wantGet(2, leaf(2))
	q = w.another()
	q.adopt(2)
	q.wantGet(2, leaf(1))
}

// TestP11_3AdoptApart demands that two stores have nothing in common but the bank.
func TestP11_3AdoptApart(t *testing.T) {
	w := planted(t)
	q := w.another()
	before := w.all()
	q.adopt(5, 4102)
	q.drop(5)
	q.begin()
	wantSame(t, "another store", w.all(), before)
	q.back()
	var r roster.Roster
	other := over(t, w.b, r)
	other.p = pages.New(w.b, other.s)
	other.wantHolds(holds{})
	other.refusesAdopt(5, api.ErrRange)
}
