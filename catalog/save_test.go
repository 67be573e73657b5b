package catalog_test

import (
	"errors"
	"maps"
	"slices"
	"testing"

	"portage/api"
	"portage/btree"
	"portage/catalog"
	"portage/fault"
	"portage/space"
)

// full are as many volumes as there may be, each with all pairs.
func full() []catalog.Volume {
	var list []catalog.Volume
	for i := range api.MaxVolumes {
		list = append(list, catalog.Volume{Id: 3*i + 1, Size: 100 + i, Root: 200 + i, Origin: 300 + i})
	}
	return list
}

// saved is a catalog with these volumes, saved and settled, over devices of so many sectors.
func saved(t *testing.T, list []catalog.Volume, sizes ...int) *world {
	t.Helper()
	w := made(t, sizes...)
	w.put(list...)
	w.save()
	w.s.Settle()
	return w
}

// wantNoWrite demands that a call is not refused, writes nothing, and changes nothing.
func (w *world) wantNoWrite(what string, call func() error) {
	w.Helper()
	before, done := w.tells(), w.b.Done()
	must(w.T, what, call())
	wantSame(w.T, what, w.tells(), before)
	if w.b.Done() != done {
		w.Fatalf("%s: %d writes", what, w.b.Done()-done)
	}
}

// wantNothingElse demands that behind Settle just the pages are used.
func (w *world) wantNothingElse() {
	w.Helper()
	w.s.Settle()
	used := 0
	for device := range w.s.Roster().List {
		used += w.s.Used(device)
	}
	if used != len(w.p.Pages()) {
		w.Fatalf("%d are used, by %d pages", used, len(w.p.Pages()))
	}
}

func TestP13_2SaveNothing(t *testing.T) {
	w := made(t, 20)
	w.b.Arm(0)
	w.fill(0)
	w.wantNoWrite("Save", w.c.Save)
	w.put(catalog.Volume{Id: 1, Size: 1})
	w.remove(1)
	w.wantNoWrite("Save", w.c.Save)
	w.wantSaved()
}

func TestP13_2Save(t *testing.T) {
	for count := range api.MaxVolumes + 1 {
		for _, list := range [][]catalog.Volume{many(count), full()[:count]} {
			w := made(t, 100)
			w.put(list...)
			if w.c.Root() != 0 {
				t.Fatalf("Root ahead of Save: %d", w.c.Root())
			}
			w.save()
			w.wantList(list...)
			w.wantSaved(list...)
			w.wantOwn()
			w.wantNothingElse()
		}
	}
}

// TestP13_2SaveAgain saves where nothing differs: without power and without room nothing is refused, for nothing is written.
func TestP13_2SaveAgain(t *testing.T) {
	for _, list := range [][]catalog.Volume{many(1), many(2), many(9), many(32), full()} {
		w := saved(t, list, 100, 60)
		w.b.Arm(0)
		w.fill(0)
		w.wantNoWrite("Save", w.c.Save)
		// What was changed and changed back does not differ, either.
		w.put(catalog.Volume{Id: list[0].Id, Size: 5000, Root: 9000, Origin: 4})
		w.remove(list[len(list)-1].Id)
		w.put(catalog.Volume{Id: 9999, Size: 1})
		w.remove(9999)
		w.put(list[0], list[len(list)-1])
		w.wantNoWrite("Save", w.c.Save)
		w.wantSaved(list...)
	}
}

// TestP13_2Root demands that Root tells the tree as it was saved last, whatever the volumes are now.
func TestP13_2Root(t *testing.T) {
	w := saved(t, many(5), 100)
	root := w.c.Root()
	w.put(many(20)...)
	w.remove(1, 2)
	w.put(catalog.Volume{Id: 3, Size: 1})
	if w.c.Root() != root {
		t.Fatalf("Root: %d, not %d", w.c.Root(), root)
	}
	w.wantSaved(many(5)...)
	w.save()
	if w.c.Root() == root {
		t.Fatalf("Root: %d, as ahead of Save", root)
	}
	w.wantSaved(w.c.List()...)
	w.remove(slices.Collect(func(yield func(int) bool) {
		for _, v := range w.c.List() {
			if !yield(v.Id) {
				return
			}
		}
	})...)
	if w.c.Root() == 0 {
		t.Fatalf("Root is 0 ahead of Save")
	}
	w.save()
	w.wantSaved()
	w.wantOwn()
}

// TestP13_2OnePair changes one pair: Save does what one Set or Delete of layer 12 does, and nothing else.
func TestP13_2OnePair(t *testing.T) {
	list := []catalog.Volume{{Id: 1, Size: 10}, {Id: 2, Size: 20, Root: 21}, {Id: 3, Size: 30, Origin: 31}, {Id: 4, Size: 40, Root: 41, Origin: 42}, {Id: 9, Size: 90}}
	for _, c := range []struct {
		volume   catalog.Volume
		key, val int
	}{
		{catalog.Volume{Id: 1, Size: 11}, 4, 11},
		{catalog.Volume{Id: 1, Size: 10, Root: 5}, 5, 5},
		{catalog.Volume{Id: 1, Size: 10, Root: maxRoot}, 5, maxRoot},
		{catalog.Volume{Id: 1, Size: 10, Origin: 6}, 6, 6},
		{catalog.Volume{Id: 2, Size: 20}, 9, 0},
		{catalog.Volume{Id: 2, Size: 20, Root: 22}, 9, 22},
		{catalog.Volume{Id: 3, Size: 30}, 14, 0},
		{catalog.Volume{Id: 3, Size: 30, Origin: 1}, 14, 1},
		{catalog.Volume{Id: 3, Size: api.MaxBlocks, Origin: 31}, 12, api.MaxBlocks},
		{catalog.Volume{Id: 4, Size: 40, Origin: 42}, 17, 0},
		{catalog.Volume{Id: 4, Size: 40, Root: 41}, 18, 0},
		{catalog.Volume{Id: 4, Size: 41, Root: 41, Origin: 42}, 16, 41},
		{catalog.Volume{Id: 5, Size: 50}, 20, 50},
		{catalog.Volume{Id: 9}, 36, 0},
		{catalog.Volume{Id: maxId, Size: 3}, 4 * maxId, 3},
	} {
		w, other := saved(t, list, 60, 50), saved(t, list, 60, 50)
		var root int
		var err error
		if c.val == 0 {
			root, err = btree.Delete(other.p, other.c.Root(), c.key)
		} else {
			root, err = btree.Set(other.p, other.c.Root(), c.key, c.val)
		}
		must(t, "Set or Delete", err)
		if c.volume.Size == 0 {
			w.remove(c.volume.Id)
		} else {
			w.put(c.volume)
		}
		w.save()
		if w.c.Root() != root || w.b.Done() != other.b.Done() {
			t.Fatalf("%v: Root %d, not %d; %d writes, not %d", c.volume, w.c.Root(), root, w.b.Done(), other.b.Done())
		}
		got, want := w.tells(), other.tells()
		got.Volumes, got.Root, want.Volumes, want.Root = nil, 0, nil, 0
		wantSame(t, "Save", got, want)
		w.wantSaved(w.c.List()...)
	}
}

// kept are pages of a tree that are of another one, too.
func kept(w *world, root int, was []int) int {
	count := 0
	for _, addr := range btree.Pages(w.p, root) {
		if slices.Contains(was, addr) {
			count++
		}
	}
	return count
}

// TestP13_2Shared demands that the pages in which no pair differs stay.
func TestP13_2Shared(t *testing.T) {
	w := saved(t, full(), 200)
	was := btree.Pages(w.p, w.c.Root())
	first := full()[0]
	first.Size++
	w.put(first)
	w.remove(full()[31].Id)
	w.save()
	if now := len(btree.Pages(w.p, w.c.Root())); kept(w, w.c.Root(), was) < now-6 {
		t.Errorf("of %d pages %d stay", now, kept(w, w.c.Root(), was))
	}
	w.wantSaved(w.c.List()...)
	w.wantOwn()
}

// turns are lists of volumes, each made of the one ahead of it by many changes.
func turns() [][]catalog.Volume {
	some := many(20)
	other := many(24)[8:]
	for i := range other {
		other[i].Size += i % 2
		other[i].Root, other[i].Origin = other[i].Origin, other[i].Root
	}
	return [][]catalog.Volume{nil, many(2), nil, some, other, full(), many(32), full()[:5], other, {{Id: maxId, Size: 1}}, many(32), nil}
}

// become lets the volumes be just these.
func (w *world) become(list []catalog.Volume) {
	w.Helper()
	for _, v := range w.c.List() {
		w.remove(v.Id)
	}
	w.put(list...)
}

func TestP13_2SaveOthers(t *testing.T) {
	w := made(t, 200)
	tree := w.tree(1, 2, 3)
	for _, list := range turns() {
		w.become(list)
		w.save()
		w.wantList(list...)
		w.wantSaved(list...)
		w.wantOwn(tree)
		w.wantNothingElse()
	}
}

// differs is how many pairs differ between two maps.
func differs(a, b map[int]int) int {
	count := 0
	for key, val := range a {
		if to, is := b[key]; !is || to != val {
			count++
		}
	}
	for key := range b {
		if _, is := a[key]; !is {
			count++
		}
	}
	return count
}

// wantAsFarAsItCame demands that each pair of the tree is as it was, or as it shall be, and tells how many are not as they shall be.
func (w *world) wantAsFarAsItCame(was, shall map[int]int) int {
	w.Helper()
	now := w.stands()
	for _, pairs := range []map[int]int{now, was, shall} {
		for key := range pairs {
			val, is := now[key]
			before, wasThere := was[key]
			next, shallBe := shall[key]
			if (is != wasThere || val != before) && (is != shallBe || val != next) {
				w.Fatalf("the key %d has %d, %t: it had %d, %t, and shall have %d, %t", key, val, is, before, wasThere, next, shallBe)
			}
		}
	}
	if root := w.c.Root(); root != 0 && w.p.Holds(root) != 1 {
		w.Fatalf("the tree %d has %d holds", root, w.p.Holds(root))
	}
	w.wantOwn()
	return differs(now, shall)
}

// wantNoRoom demands ErrFull, as a code.
func wantNoRoom(t *testing.T, what string, err error) {
	t.Helper()
	wantError(t, what, err, api.ErrFull)
}

// wantNoPower demands a fault of a page around one of a write without power.
func wantNoPower(t *testing.T, what string, err error) {
	t.Helper()
	if !errors.Is(err, api.ErrDown) || !slices.Equal(fault.Path(err), []string{"page", "write"}) {
		t.Fatalf("%s: %v", what, err)
	}
}

// TestP13_2RefusedRoom saves with any room: refused it stands as far as it came, and with more room it is made whole.
func TestP13_2RefusedRoom(t *testing.T) {
	for i, list := range turns()[1:] {
		from := turns()[i]
		for left := range 60 {
			w := saved(t, from, 300)
			w.become(list)
			w.fill(left)
			err := w.c.Save()
			w.wantList(list...)
			if err == nil {
				w.wantSaved(list...)
				break
			}
			wantNoRoom(t, "Save", err)
			if w.wantAsFarAsItCame(pairsOf(from...), pairsOf(list...)) == 0 {
				t.Fatalf("Save is refused, but nothing differs")
			}
			w.grow(100)
			w.save()
			w.wantList(list...)
			w.wantSaved(list...)
			w.wantOwn()
		}
	}
}

// TestP13_2RefusedWrite saves with a power that goes at any write: the later it goes, the less differs.
func TestP13_2RefusedWrite(t *testing.T) {
	for i, list := range turns()[1:] {
		from := turns()[i]
		least := differs(pairsOf(from...), pairsOf(list...))
		for arm := 0; ; arm++ {
			w := saved(t, from, 300)
			w.become(list)
			w.b.Arm(arm)
			err := w.c.Save()
			w.b.Crash()
			w.wantList(list...)
			if err == nil {
				w.wantSaved(list...)
				break
			}
			wantNoPower(t, "Save", err)
			left := w.wantAsFarAsItCame(pairsOf(from...), pairsOf(list...))
			if left > least || left == 0 {
				t.Fatalf("%d pairs differ behind %d writes, and %d behind one less", left, arm, least)
			}
			least = left
			w.save()
			w.wantSaved(list...)
			w.wantOwn()
		}
	}
}

// TestP13_2RefusedFault demands just the error that layer 12 tells.
func TestP13_2RefusedFault(t *testing.T) {
	w := made(t, 20)
	w.put(many(1)...)
	w.b.Arm(0)
	w.refuses("Save", broken("write", 2, api.ErrDown), w.c.Save)
	w.b.Crash()
	must(t, "Detach", w.b.Detach(0))
	w.refuses("Save", broken("write", 2, api.ErrGone), w.c.Save)
	w = over(t, banked(t, 3), rostered(3, 9))
	w.put(many(1)...)
	w.refuses("Save", broken("write", space.Addr(1, 2), api.ErrDevice), w.c.Save)
	w = made(t)
	w.put(many(1)...)
	w.refuses("Save", api.ErrFull, w.c.Save)
}

// TestP13_2RefusedBegun saves in vain between Begin and its end, and takes it back: all is as it was.
func TestP13_2RefusedBegun(t *testing.T) {
	for arm := range 40 {
		w := saved(t, many(20), 300)
		w.become(full())
		before := w.tells()
		w.begin()
		w.b.Arm(arm)
		wantNoPower(t, "Save", w.c.Save())
		w.b.Crash()
		w.wantAsFarAsItCame(pairsOf(many(20)...), pairsOf(full()...))
		w.back()
		wantSame(t, "Back", w.tells(), before)
		w.wantSaved(many(20)...)
		w.save()
		w.wantSaved(full()...)
	}
}

// spread is a catalog with these volumes, saved and settled, whose tree is on two devices alike; on the first one nothing new is taken.
func spread(t *testing.T, list []catalog.Volume) *world {
	t.Helper()
	w := saved(t, list, 100, 100)
	w.drain(0)
	return w
}

// on are the pages of the catalog's tree that are on a device.
func (w *world) on(device int) []int {
	return slices.DeleteFunc(btree.Pages(w.p, w.c.Root()), func(addr int) bool {
		at, _ := space.At(addr)
		return at != device
	})
}

func TestP13_2Leave(t *testing.T) {
	for _, list := range turns() {
		w := spread(t, list)
		w.leave(0)
		if on := w.on(0); len(on) != 0 {
			t.Fatalf("%v are on the device still", on)
		}
		w.wantList(list...)
		w.wantSaved(list...)
		w.wantOwn()
		w.wantNothingElse()
		if used := w.s.Used(0); used != 0 {
			t.Fatalf("%d are used on the device", used)
		}
		w.wantNoWrite("Leave again", func() error { return w.c.Leave(0) })
		w.wantNoWrite("Save", w.c.Save)
	}
}

// TestP13_2LeaveIsSwap demands that Leave does what layer 12's Swap does, and nothing else.
func TestP13_2LeaveIsSwap(t *testing.T) {
	for device := -1; device <= 2; device++ {
		w, other := spread(t, full()), spread(t, full())
		w.leave(device)
		root, err := btree.Swap(other.p, other.c.Root(), device, nil, nil)
		must(t, "Swap", err)
		if w.c.Root() != root || w.b.Done() != other.b.Done() {
			t.Fatalf("Root: %d, not %d; %d writes, not %d", w.c.Root(), root, w.b.Done(), other.b.Done())
		}
		got, want := w.tells(), other.tells()
		got.Root, want.Root = 0, 0
		wantSame(t, "Leave", got, want)
	}
}

// TestP13_2LeaveActive leaves a device on which something new may be taken: none of the pages that were there stays.
func TestP13_2LeaveActive(t *testing.T) {
	w := saved(t, full(), 200)
	was := btree.Pages(w.p, w.c.Root())
	w.leave(0)
	if n := kept(w, w.c.Root(), was); n != 0 {
		t.Errorf("%d pages stay", n)
	}
	w.wantSaved(full()...)
	w.wantOwn()
}

func TestP13_2LeaveNothing(t *testing.T) {
	// A tree that is 0, of any device, without power and without room.
	w := made(t, 20)
	w.put(many(3)...)
	w.b.Arm(0)
	w.fill(0)
	for _, device := range edges {
		w.wantNoWrite("Leave", func() error { return w.c.Leave(device) })
	}
	// A tree that has nothing on the device.
	w = saved(t, full(), 100)
	w.b.Arm(0)
	w.fill(0)
	for _, device := range edges {
		if device != 0 {
			w.wantNoWrite("Leave", func() error { return w.c.Leave(device) })
		}
	}
}

// TestP13_2LeaveSavesNothing demands that Leave lets the tree have the pairs that it had, whatever the volumes are now, and leaves their trees alone.
func TestP13_2LeaveSavesNothing(t *testing.T) {
	w := spread(t, many(20))
	tree := w.tree(1, 2, 3)
	w.become(many(5))
	w.put(catalog.Volume{Id: 1, Size: 9, Root: tree})
	list := w.c.List()
	w.leave(0)
	w.wantSaved(many(20)...)
	w.wantList(list...)
	w.leave(1)
	w.wantOwn(tree)
	w.save()
	w.wantSaved(list...)
	w.wantOwn(tree)
}

// TestP13_2LeaveRefused leaves with any room that is too little, and with a power that goes at any write: nothing is changed.
func TestP13_2LeaveRefused(t *testing.T) {
	done := spread(t, full())
	writes := done.b.Done()
	done.leave(0)
	needs := done.b.Done() - writes
	if needs < 3 {
		t.Fatalf("just %d pages are written anew", needs)
	}
	for left := range needs {
		w := spread(t, full())
		w.fill(left)
		w.refuses("Leave", api.ErrFull, func() error { return w.c.Leave(0) })
		w.wantSaved(full()...)
	}
	for arm := range needs {
		w := spread(t, full())
		before := w.tells()
		w.b.Arm(arm)
		wantNoPower(t, "Leave", w.c.Leave(0))
		w.b.Crash()
		wantSame(t, "Leave", w.tells(), before)
		w.wantSaved(full()...)
		w.leave(0)
		if len(w.on(0)) != 0 {
			t.Fatalf("%v are on the device still", w.on(0))
		}
	}
}

// TestP13_2Durable demands that what Root tells stands on the devices with all its pairs: another store has them.
func TestP13_2Durable(t *testing.T) {
	w := made(t, 80, 70)
	for _, list := range turns() {
		for i := range list {
			list[i].Root = 0
		}
		w.become(list)
		w.save()
		other := w.another(w.c.Root())
		other.wantList(list...)
		if !maps.Equal(other.stands(), w.stands()) {
			t.Fatalf("%v, not %v", other.stands(), w.stands())
		}
	}
}
