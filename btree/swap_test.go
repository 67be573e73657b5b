package btree_test

import (
	"maps"
	"slices"
	"testing"

	"portage/api"
	"portage/btree"
	"portage/node"
)

// laid is a store over two devices with three trees that share pages, and nothing new is taken on the device 0.
type laid struct {
	*forest
	// shared is in the first two trees, far in the first and the last one.
	shared, far *page
}

func layTrees(t *testing.T) laid {
	t.Helper()
	shared := above(leafOf(10, 20), leafOf(30), leafOf(40))
	far := above(leafOf(70), leafOf(80, 90))
	f := planted(made(t, 60, 60), above(shared, far), above(above(leafOf(5)), shared), above(far, above(leafOf(95))))
	f.drain(0)
	return laid{f, shared, far}
}

// drain lets nothing new be taken on a device.
func (w *world) drain(device int) {
	w.Helper()
	r, err := w.s.Roster().Drain(device)
	must(w.T, "Drain", err)
	must(w.T, "Turn", w.s.Turn(r))
}

// swapWith is what trees are swapped with.
func swapWith(device int, vals map[int]int) *swapping {
	return &swapping{device: device, vals: vals, noted: map[int]int{}, became: map[*page]*page{}}
}

// wantUnchanged demands that Swap tells the same tree, writes and notes nothing, and lets all be as it was.
func (w *world) wantUnchanged(root, device int, noted, vals map[int]int) {
	w.Helper()
	before, done, was := w.all(), w.b.Done(), maps.Clone(noted)
	if to := w.swap(root, device, noted, vals); to != root {
		w.Fatalf("Swap: %d, not %d", to, root)
	}
	wantSame(w.T, "Swap", w.all(), before)
	if w.b.Done() != done || !maps.Equal(noted, was) {
		w.Fatalf("%d writes; noted: %v, not %v", w.b.Done()-done, noted, was)
	}
}

func TestP12_4Empty(t *testing.T) {
	w := made(t, 20)
	w.grown(shuffled(9, 0)...)
	for _, noted := range []map[int]int{nil, {}, {0: 3}, {0: 99, 2: 5}} {
		for _, vals := range []map[int]int{nil, {0: 0}, {1000: 0, 5: -1}} {
			for _, device := range edges {
				w.wantUnchanged(0, device, noted, vals)
			}
		}
	}
}

// TestP12_4Nothing swaps where nothing is on the device, and no value changes.
func TestP12_4Nothing(t *testing.T) {
	f := layTrees(t)
	all := f.trees[0].page.all()
	for _, tree := range f.trees {
		for _, device := range append([]int{2, 3, 7, 8}, edges...) {
			if device == 0 || device == 1 {
				continue
			}
			f.wantUnchanged(tree.root, device, map[int]int{}, nil)
			f.wantUnchanged(tree.root, device, nil, map[int]int{})
			f.wantUnchanged(tree.root, device, map[int]int{99: 5, -1: 3}, map[int]int{5: 6, 0: 1, all[0].Val: all[0].Val})
		}
		// What names pages is no value, nor is a key.
		vals := map[int]int{}
		for _, addr := range f.p.Pages() {
			vals[addr] = 0
		}
		for _, pair := range all {
			vals[pair.Key] = 7
		}
		f.wantUnchanged(tree.root, -1, map[int]int{}, vals)
	}
	f.wantAll()
}

// TestP12_4Values lets values become others: each once, wherever it stands.
func TestP12_4Values(t *testing.T) {
	f := layTrees(t)
	s := swapWith(-1, map[int]int{1010: 1030, 1030: 1010, 1080: maxVal, 1070: 1070, 55: 0, 1095: 1})
	for i := range f.trees {
		f.swap(i, -1, s)
		f.wantReads(i)
	}
	if val, is := btree.Find(f.p, f.trees[1].root, 10); val != 1030 || !is {
		t.Errorf("Find: %d, %t", val, is)
	}
	if val, is := btree.Find(f.p, f.trees[0].root, 80); val != maxVal || !is {
		t.Errorf("Find: %d, %t", val, is)
	}
	// Three leaves have other values in the first tree, with two pages above them and the root; the others add what they do not share: a root, and a leaf, a page and a root.
	if len(s.noted) != 10 {
		t.Errorf("noted: %v", s.noted)
	}
}

// TestP12_4Device leaves a device: each of its pages is written anew, and what is above it.
func TestP12_4Device(t *testing.T) {
	for device := range 2 {
		f := layTrees(t)
		if device == 1 {
			r := f.s.Roster()
			r.List[0].State = api.Active
			must(t, "Turn", f.s.Turn(r))
			f.drain(1)
		}
		on := f.s.On(device)
		s := swapWith(device, nil)
		for i := range f.trees {
			if len(f.s.On(device)) == 0 {
				t.Fatalf("nothing is left on the device")
			}
			f.swap(i, -1, s)
			for j := range f.trees {
				f.wantReads(j)
			}
		}
		if got := f.s.On(device); len(got) != 0 {
			t.Errorf("%v are left", got)
		}
		for _, addr := range on {
			if s.noted[addr] == 0 {
				t.Errorf("%d is not noted: %v", addr, s.noted)
			}
		}
	}
}

// TestP12_4ActiveDevice swaps a device on which more is taken: all its pages are written anew, wherever that is.
func TestP12_4ActiveDevice(t *testing.T) {
	f := planted(made(t, 60), above(above(leafOf(1), leafOf(2)), above(leafOf(8))))
	was := f.p.Pages()
	s := swapWith(0, nil)
	f.swap(0, -1, s)
	if !slices.Equal(slices.Sorted(maps.Keys(s.noted)), was) || slices.ContainsFunc(was, func(addr int) bool { return slices.Contains(f.p.Pages(), addr) }) {
		t.Errorf("%v became %v", was, s.noted)
	}
	f.wantReads(0)
}

// TestP12_4Shares swaps trees that share pages, and wants them to share them then, too: in any order.
func TestP12_4Shares(t *testing.T) {
	for _, order := range [][]int{{0, 1, 2}, {2, 1, 0}, {1, 2, 0}} {
		f := layTrees(t)
		pages := len(f.p.Pages())
		s := swapWith(0, map[int]int{1080: 5})
		for _, i := range order {
			f.swap(i, -1, s)
		}
		if got := len(f.p.Pages()); got != pages {
			t.Errorf("%d pages, not %d", got, pages)
		}
		for i := range f.trees {
			f.wantReads(i)
		}
	}
	// With nothing noted they share no more than what was not written anew.
	f := layTrees(t)
	pages := len(f.p.Pages())
	for i := range f.trees {
		f.swap(i, -1, swapWith(-1, map[int]int{1010: 5, 1030: 6, 1040: 7, 1070: 8, 1080: 9, 1005: 1, 1095: 2}))
	}
	if got := len(f.p.Pages()); got != pages+7 {
		t.Errorf("%d pages, not %d", got, pages+7)
	}
}

// TestP12_4Holds swaps a tree that is held several times, once for each hold, and one that another names.
func TestP12_4Holds(t *testing.T) {
	x := above(leafOf(1), leafOf(5))
	f := planted(made(t, 20, 20), x, x, above(x), x)
	s := swapWith(0, map[int]int{1001: 7})
	for i := range f.trees {
		f.swap(i, -1, s)
	}
	if root := f.trees[0].root; f.p.Holds(root) != 4 || f.trees[1].root != root || f.trees[3].root != root {
		t.Errorf("%d holds; %v", f.p.Holds(root), f.trees)
	}
}

// TestP12_4Roots swaps a root that names one page alone: it is no change of its shape.
func TestP12_4Roots(t *testing.T) {
	f := planted(made(t, 20, 20), above(above(leafOf(1, 2))))
	f.swap(0, -1, swapWith(0, map[int]int{1001: 7}))
	if len(f.p.Pages()) != 3 {
		t.Errorf("%v", f.p.Pages())
	}
}

// TestP12_4Noted hands in what was noted by hand: those pages stand there, whatever else would be done to the old ones.
func TestP12_4Noted(t *testing.T) {
	f := layTrees(t)
	root := f.trees[0].root
	other := f.put(node.Node{Keys: []int{10}, Vals: []int{4}})
	old := f.at[f.shared.below[0]]
	noted := map[int]int{old: other}
	// The values of the old one are not asked for: they would be refused.
	to := f.world.swap(root, -1, noted, map[int]int{1010: 0})
	f.wantPairs(to, map[int]int{10: 4, 30: 1030, 40: 1040, 70: 1070, 80: 1080, 90: 1090})
	if len(noted) != 3 || noted[old] != other || noted[root] != to || f.p.Holds(other) != 1 {
		t.Errorf("noted: %v; %d holds", noted, f.p.Holds(other))
	}
	if upper, err := f.p.Get(noted[f.at[f.shared]]); err != nil || upper.Vals[0] != other {
		t.Errorf("%v, %v", upper, err)
	}

	// A root that is noted is told, and held.
	f = layTrees(t)
	root = f.trees[0].root
	other = f.put(node.Node{Keys: []int{10}, Vals: []int{4}})
	noted = map[int]int{root: other}
	if to := f.world.swap(root, 0, noted, map[int]int{1010: 0}); to != other || f.p.Holds(other) != 1 || f.p.Holds(root) != 0 || len(noted) != 1 {
		t.Errorf("Swap: %d, noted: %v", to, noted)
	}

	// What is noted as it was is not changed, though it is on the device.
	f = layTrees(t)
	for _, tree := range f.trees {
		same := map[int]int{tree.root: tree.root}
		f.wantUnchanged(tree.root, tree.root/api.MaxSectors, same, map[int]int{1010: 5})
	}
}

// TestP12_4NotedWrong hands in that a page is noted to be what is none, or one of another Level.
func TestP12_4NotedWrong(t *testing.T) {
	f := layTrees(t)
	root, leaf := f.trees[0].root, f.at[f.shared.below[0]]
	for _, to := range append([]int{1, 58, f.at[f.shared]}, edges...) {
		if slices.Contains(f.p.Pages(), to) && to != f.at[f.shared] {
			continue
		}
		want := api.ErrMissing
		switch {
		case to == f.at[f.shared], to < 1, to > maxVal:
			want = api.ErrNode
		}
		f.refusesSwap(root, -1, map[int]int{leaf: to}, nil, want)
		f.refusesSwap(root, -1, map[int]int{leaf: to}, map[int]int{1090: 5}, want)
		if want == api.ErrMissing || to < 1 || to > maxVal {
			f.refusesSwap(root, -1, map[int]int{root: to}, nil, api.ErrMissing)
		}
	}
	f.wantAll()
}

// TestP12_4Keys swaps values that become what may be none, first and last in the trees, also where nothing can be written.
func TestP12_4Keys(t *testing.T) {
	for _, val := range edges {
		for _, was := range []int{1010, 1030, 1080, 1090} {
			f := layTrees(t)
			root := f.trees[0].root
			vals := map[int]int{was: val, 1070: 7}
			if val >= 1 && val <= maxVal {
				f.swap(0, -1, swapWith(-1, vals))
				continue
			}
			f.refusesSwap(root, -1, map[int]int{}, vals, api.ErrKey)
			f.refusesSwap(root, 0, map[int]int{58: 57}, vals, api.ErrKey)
			f.refusesSwap(root, 1, nil, vals, api.ErrKey)
			for f.s.Free() > 0 {
				f.put(node.Node{Keys: []int{1}, Vals: []int{1}})
			}
			f.refusesSwap(root, 0, map[int]int{}, vals, api.ErrKey)
			f.b.Arm(0)
			f.b.Flush(0)
			f.refusesSwap(root, 0, map[int]int{}, vals, api.ErrKey)
		}
		// No value of the tree becomes this one.
		f := layTrees(t)
		f.swap(0, -1, swapWith(0, map[int]int{55: val, 10: val, f.trees[0].root: val}))
	}
}

// TestP12_4InVain swaps where there is too little room, or the power goes: nothing more is noted, and all is as it was.
func TestP12_4InVain(t *testing.T) {
	needs := 1
	for room := 0; room <= needs; room++ {
		f := layTrees(t)
		s := swapWith(0, map[int]int{1080: 5})
		f.swap(1, -1, s)
		needs = f.needs(s.swap(f.trees[0].page, f.at, map[*page]*page{}))
		for f.s.Free() > room {
			f.put(node.Node{Keys: []int{1}, Vals: []int{1}})
		}
		if room < needs {
			f.refusesSwap(f.trees[0].root, 0, s.noted, s.vals, api.ErrFull)
		} else {
			f.world.swap(f.trees[0].root, 0, s.noted, s.vals)
		}
	}
	for arm := range 4 {
		f := layTrees(t)
		s := swapWith(0, map[int]int{1080: 5})
		f.swap(1, -1, s)
		before, noted := f.all(), maps.Clone(s.noted)
		f.b.Arm(arm)
		f.refusesDown(f.trees[0].root, s)
		f.b.Crash()
		wantSame(t, "Swap", f.all(), before)
		if !maps.Equal(s.noted, noted) {
			t.Errorf("noted: %v, not %v", s.noted, noted)
		}
		f.swap(0, -1, s)
		f.swap(2, -1, s)
	}
}

// refusesDown demands that a Swap finds the power down.
func (f *forest) refusesDown(root int, s *swapping) {
	f.Helper()
	takes := f.takes()
	done := f.b.Done()
	to, err := btree.Swap(f.p, root, s.device, s.noted, s.vals)
	if to != 0 {
		f.Errorf("Swap tells %d beside an error", to)
	}
	wantError(f.T, "Swap", err, broken(takes[f.b.Done()-done], api.ErrDown))
}

// takes are the addresses that may be taken in the space, in their order. All is taken back.
func (w *world) takes() []int {
	w.Helper()
	must(w.T, "space.Begin", w.s.Begin())
	var addrs []int
	for addr, err := w.s.Take(); err == nil; addr, err = w.s.Take() {
		addrs = append(addrs, addr)
	}
	must(w.T, "space.Back", w.s.Back())
	return addrs
}

// TestP12_4NothingNoted hands in no map at all.
func TestP12_4NothingNoted(t *testing.T) {
	f := layTrees(t)
	root := f.world.swap(f.trees[0].root, 0, nil, map[int]int{1010: 5})
	if val, is := btree.Find(f.p, root, 10); val != 5 || !is || f.p.Holds(root) != 1 {
		t.Errorf("Find: %d, %t", val, is)
	}
	f.refusesSwap(root, 1, nil, map[int]int{5: 0}, api.ErrKey)
}

// TestP12_4Great leaves a device with trees of several Levels that share most of their pages.
func TestP12_4Great(t *testing.T) {
	f := planted(made(t, 200, 200, 200), nil)
	for _, key := range shuffled(300, 5) {
		f.set(0, key, 1+key%50, -1)
	}
	next := numbers(9)
	for range 5 {
		f.trees = append(f.trees, f.trees[0])
		f.hold(f.trees[0].root)
		for range 6 {
			f.set(len(f.trees)-1, next.below(300), 1+next.below(50), -1)
		}
	}
	f.drain(1)
	s := swapWith(1, map[int]int{7: 100, 8: 101})
	pages := len(f.p.Pages())
	for i := range f.trees {
		f.swap(i, -1, s)
	}
	if len(f.s.On(1)) != 0 || len(f.p.Pages()) != pages {
		t.Errorf("%v are left; %d pages, not %d", f.s.On(1), len(f.p.Pages()), pages)
	}
	for i := range f.trees {
		f.wantReads(i)
	}
}
