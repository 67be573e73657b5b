package btree_test

import (
	"maps"
	"math"
	"reflect"
	"slices"
	"testing"

	"portage/api"
	"portage/bank"
	"portage/btree"
	"portage/fault"
	"portage/node"
	"portage/pages"
	"portage/roster"
	"portage/space"
)

// levels is the greatest Level of a page; maxKey and maxVal are the greatest key and the greatest value.
const (
	levels = 20
	maxKey = 1 << 40
	maxVal = 1 << 61
)

// edges are numbers at the ends of what keys, values and addresses may be, and past them.
var edges = []int{math.MinInt, math.MinInt + 1, -maxVal, -maxKey, math.MinInt32, -4096, -2, -1, 0, 1, 2, 4095, 4096, api.MaxDevices * api.MaxSectors, math.MaxInt32, 1 << 32, maxKey - 1, maxKey, maxKey + 1, maxVal - 1, maxVal, maxVal + 1, math.MaxInt - 1, math.MaxInt}

// world is a store with its bank and its space.
type world struct {
	*testing.T
	b *bank.Bank
	s *space.Space
	p *pages.Store
}

// must demands that a call is not refused.
func must(t *testing.T, what string, err error) {
	t.Helper()
	if err != nil {
		t.Fatalf("%s: %v", what, err)
	}
}

// wantError demands that err is just this one: the same faults around the same code.
func wantError(t *testing.T, what string, err, want error) {
	t.Helper()
	if !reflect.DeepEqual(err, want) {
		t.Fatalf("%s: %v, not %v", what, err, want)
	}
}

// broken is the fault of a write at an address, within a page's.
func broken(addr int, code api.Code) error {
	device, sector := space.At(addr)
	return fault.Wrap("page", device, sector, fault.Wrap("write", device, sector, code))
}

// banked is a bank with devices of so many sectors.
func banked(t *testing.T, sizes ...int) *bank.Bank {
	t.Helper()
	b := bank.New()
	for _, size := range sizes {
		_, err := b.Add(size)
		must(t, "Add", err)
	}
	return b
}

// rostered is a roster of Active devices of so many sectors.
func rostered(sizes ...int) roster.Roster {
	var r roster.Roster
	for _, size := range sizes {
		r.List = append(r.List, roster.Entry{State: api.Active, Size: size})
	}
	return r
}

// over is a store that knows no page, over this bank and a space of its own.
func over(t *testing.T, b *bank.Bank, r roster.Roster) *world {
	t.Helper()
	s, err := space.New(r)
	must(t, "space.New", err)
	return &world{t, b, s, pages.New(b, s)}
}

// made is a store over new devices of so many sectors.
func made(t *testing.T, sizes ...int) *world {
	t.Helper()
	return over(t, banked(t, sizes...), rostered(sizes...))
}

// put is the address at which a node is put by hand.
func (w *world) put(n node.Node) int {
	w.Helper()
	addr, err := w.p.Put(n)
	must(w.T, "Put", err)
	return addr
}

func (w *world) hold(addrs ...int) {
	w.Helper()
	for _, addr := range addrs {
		must(w.T, "Hold", w.p.Hold(addr))
	}
}

func (w *world) drop(addrs ...int) {
	w.Helper()
	for _, addr := range addrs {
		must(w.T, "Drop", w.p.Drop(addr))
	}
}

// begin, commit and back are done to the store and its space alike.
func (w *world) begin() {
	w.Helper()
	must(w.T, "space.Begin", w.s.Begin())
	must(w.T, "Begin", w.p.Begin())
}

func (w *world) commit() {
	w.Helper()
	must(w.T, "Commit", w.p.Commit())
	must(w.T, "space.Commit", w.s.Commit())
}

func (w *world) back() {
	w.Helper()
	must(w.T, "Back", w.p.Back())
	must(w.T, "space.Back", w.s.Back())
}

// wantHolds demands that just these are pages, with these holds, and that their addresses, and no others, are taken in the space.
func (w *world) wantHolds(want map[int]int) {
	w.Helper()
	addrs := slices.Sorted(maps.Keys(want))
	if got := w.p.Pages(); !slices.Equal(got, addrs) {
		w.Fatalf("Pages: %v, not %v", got, addrs)
	}
	for addr, holds := range want {
		if got := w.p.Holds(addr); got != holds {
			w.Fatalf("Holds(%d): %d, not %d", addr, got, holds)
		}
	}
	var taken []int
	for device := range w.s.Roster().List {
		taken = append(taken, w.s.On(device)...)
	}
	if !slices.Equal(taken, addrs) {
		w.Fatalf("%v are taken, not %v", taken, addrs)
	}
}

// told is all that a store and a space tell.
type told struct {
	Nodes map[int]node.Node
	// Held is how often each page may be dropped, Fresh what is fresh of what is taken. Both are probed, where nothing is begun.
	Holds, Held map[int]int
	On          [api.MaxDevices][]int
	Used        [api.MaxDevices]int
	Free        int
	Fresh       []int
}

// tells is all that the store and the space tell.
func (w *world) tells() told {
	w.Helper()
	x := told{Nodes: map[int]node.Node{}, Holds: map[int]int{}, Held: map[int]int{}, Free: w.s.Free()}
	for _, addr := range w.p.Pages() {
		n, err := w.p.Get(addr)
		must(w.T, "Get", err)
		x.Nodes[addr], x.Holds[addr] = n, w.p.Holds(addr)
	}
	for device := range api.MaxDevices {
		x.On[device], x.Used[device] = w.s.On(device), w.s.Used(device)
	}
	return x
}

// all is what tells is, with what must be probed for.
func (w *world) all() told {
	w.Helper()
	x := w.tells()
	for addr := range x.Nodes {
		w.begin()
		for w.p.Drop(addr) == nil {
			x.Held[addr]++
		}
		w.back()
	}
	must(w.T, "space.Begin", w.s.Begin())
	for _, addr := range slices.Concat(x.On[:]...) {
		if w.s.Unmark(addr) != nil {
			x.Fresh = append(x.Fresh, addr)
		}
	}
	must(w.T, "space.Back", w.s.Back())
	return x
}

// wantSame demands that all is told as before.
func wantSame(t *testing.T, what string, got, want told) {
	t.Helper()
	if !reflect.DeepEqual(got, want) {
		t.Fatalf("%s: %+v, not %+v", what, got, want)
	}
}

// refuses demands that a call tells this error, no tree beside it, and that nothing is changed: neither if nothing is begun, nor behind Begin.
func (w *world) refuses(what string, want error, call func() (int, error)) {
	w.Helper()
	refused := func() {
		w.Helper()
		root, err := call()
		wantError(w.T, what, err, want)
		if root != 0 {
			w.Fatalf("%s tells %d beside an error", what, root)
		}
	}
	before := w.all()
	refused()
	wantSame(w.T, what, w.all(), before)
	w.begin()
	within := w.tells()
	refused()
	wantSame(w.T, what, w.tells(), within)
	w.back()
	wantSame(w.T, what, w.all(), before)
}

func (w *world) refusesSet(root, key, val int, want error) {
	w.Helper()
	w.refuses("Set", want, func() (int, error) { return btree.Set(w.p, root, key, val) })
}

func (w *world) refusesDelete(root, key int, want error) {
	w.Helper()
	w.refuses("Delete", want, func() (int, error) { return btree.Delete(w.p, root, key) })
}

// refusesSwap demands that nothing is noted, either.
func (w *world) refusesSwap(root, device int, noted, vals map[int]int, want error) {
	w.Helper()
	was := maps.Clone(noted)
	w.refuses("Swap", want, func() (int, error) { return btree.Swap(w.p, root, device, noted, vals) })
	if !maps.Equal(noted, was) {
		w.Fatalf("Swap notes %v behind an error, not %v", noted, was)
	}
}

// set is the tree with this value of a key, held in place of the old one.
func (w *world) set(root, key, val int) int {
	w.Helper()
	to, err := btree.Set(w.p, root, key, val)
	must(w.T, "Set", err)
	return to
}

// delete is the tree without a key, held in place of the old one.
func (w *world) delete(root, key int) int {
	w.Helper()
	to, err := btree.Delete(w.p, root, key)
	must(w.T, "Delete", err)
	return to
}

// swap is the tree with other values and pages, held in place of the old one.
func (w *world) swap(root, device int, noted, vals map[int]int) int {
	w.Helper()
	to, err := btree.Swap(w.p, root, device, noted, vals)
	must(w.T, "Swap", err)
	return to
}

// grown is a tree with these keys, set in this order, each with a value of its own.
func (w *world) grown(keys ...int) int {
	w.Helper()
	root := 0
	for _, key := range keys {
		root = w.set(root, key, key+1000)
	}
	return root
}

// wantPairs demands the pairs of a tree.
func (w *world) wantPairs(root int, want map[int]int) {
	w.Helper()
	must(w.T, "Check", btree.Check(w.p, root))
	var list []node.Pair
	for _, key := range slices.Sorted(maps.Keys(want)) {
		list = append(list, node.Pair{Key: key, Val: want[key]})
	}
	if got := btree.Items(w.p, root, 0, -1); !slices.Equal(got, list) {
		w.Fatalf("Items: %v, not %v", got, list)
	}
}

// wantBound demands that a tree has at most as many pages of each Level as it has pairs.
func (w *world) wantBound(root int) {
	w.Helper()
	count := map[int]int{}
	for _, addr := range btree.Pages(w.p, root) {
		n, err := w.p.Get(addr)
		must(w.T, "Get", err)
		must(w.T, "node.Check", n.Check())
		count[n.Level]++
	}
	pairs := btree.Count(w.p, root)
	for level, pages := range count {
		if pages > pairs {
			w.Fatalf("%d pages of the Level %d, but %d pairs", pages, level, pairs)
		}
	}
}

// shuffled are the numbers from 0 on, in an order that is always the same.
func shuffled(count int, next numbers) []int {
	list := make([]int, count)
	for i := range list {
		at := next.below(i + 1)
		list[i] = list[at]
		list[at] = i
	}
	return list
}

// orders are orders of so many keys.
func orders(count int) map[string][]int {
	rising := make([]int, count)
	for i := range rising {
		rising[i] = i
	}
	falling := slices.Clone(rising)
	slices.Reverse(falling)
	var inward []int
	for i := range count {
		inward = append(inward, []int{i / 2, count - 1 - i/2}[i%2])
	}
	outward := slices.Clone(inward)
	slices.Reverse(outward)
	return map[string][]int{"rising": rising, "falling": falling, "inward": inward, "outward": outward, "shuffled": shuffled(count, 1), "shuffled otherwise": shuffled(count, 2)}
}

func TestP12Examples(t *testing.T) {
	w := made(t, 20)
	root := w.set(0, 5, 1)
	w.wantHolds(map[int]int{root: 1})
	for key := 1; key <= 7; key++ {
		root = w.set(root, key, key)
	}
	w.wantHolds(map[int]int{root: 1})
	root = w.set(root, 8, 8)
	if got := btree.Pages(w.p, root); len(got) != 3 || !slices.Equal(got, w.p.Pages()) {
		t.Errorf("Pages: %v of %v", got, w.p.Pages())
	}
	w.hold(root)
	other := w.set(root, 3, 33)
	w.wantPairs(root, map[int]int{1: 1, 2: 2, 3: 3, 4: 4, 5: 5, 6: 6, 7: 7, 8: 8})
	w.wantPairs(other, map[int]int{1: 1, 2: 2, 3: 33, 4: 4, 5: 5, 6: 6, 7: 7, 8: 8})
	for key := 1; key <= 8; key++ {
		root, other = w.delete(root, key), w.delete(other, 9-key)
	}
	if root != 0 || other != 0 {
		t.Errorf("Delete of all: %d, %d", root, other)
	}
	w.wantHolds(map[int]int{})
}

func TestP12_1Empty(t *testing.T) {
	w := made(t, 20)
	w.grown(shuffled(10, 0)...) // another one is there
	before := w.all()
	for _, key := range edges {
		if val, is := btree.Find(w.p, 0, key); val != 0 || is {
			t.Errorf("Find(%d): %d, %t", key, val, is)
		}
		for _, limit := range edges {
			if list := btree.Items(w.p, 0, key, limit); len(list) != 0 {
				t.Errorf("Items(%d, %d): %v", key, limit, list)
			}
		}
	}
	if btree.Count(w.p, 0) != 0 || len(btree.Pages(w.p, 0)) != 0 || btree.Check(w.p, 0) != nil {
		t.Errorf("Count: %d, Pages: %v, Check: %v", btree.Count(w.p, 0), btree.Pages(w.p, 0), btree.Check(w.p, 0))
	}
	wantSame(t, "reading", w.all(), before)
}

// TestP12_1Reads reads trees of one page, and of several Levels, with room between their keys.
func TestP12_1Reads(t *testing.T) {
	for _, count := range []int{1, 2, 7, 8, 9, 29, 60, 250} {
		w := made(t, 200)
		f := planted(w, nil)
		for _, i := range shuffled(count, numbers(count)) {
			f.set(0, 5+3*i, 1+i*i, -1)
		}
		before := w.all()
		f.wantReads(0)
		wantSame(t, "reading", w.all(), before)
	}
	for _, x := range small() {
		planted(made(t, 60), x).wantReads(0)
	}
}

// TestP12_1Ends reads trees with the least and the greatest keys and values, and one of all Levels.
func TestP12_1Ends(t *testing.T) {
	x := above(&page{pairs: []node.Pair{{Key: 0, Val: 1}, {Key: 1, Val: maxVal}}}, &page{pairs: []node.Pair{{Key: maxKey - 1, Val: maxVal}, {Key: maxKey, Val: maxVal - 1}}})
	for x.level < levels {
		planted(made(t, 60), x).wantReads(0)
		x = above(x)
	}
	planted(made(t, 60), x).wantReads(0)
}

// TestP12_1Below reads trees that are part of greater ones, and those that nobody holds.
func TestP12_1Below(t *testing.T) {
	left, right := above(leafOf(1, 2), leafOf(5)), above(leafOf(8), leafOf(9, 11))
	f := planted(made(t, 60), above(left, right), left, right.below[1])
	for i := range f.trees {
		f.wantReads(i)
	}
	w := made(t, 10)
	addr := w.put(node.Node{Keys: []int{4}, Vals: []int{7}})
	if val, is := btree.Find(w.p, addr, 4); val != 7 || !is || btree.Count(w.p, addr) != 1 || btree.Check(w.p, addr) != nil {
		t.Errorf("Find: %d, %t", val, is)
	}
	w.wantHolds(map[int]int{addr: 0})
}

// TestP12_1NoPage asks for trees that are no pages: Check tells that, and no call changes or finds anything.
func TestP12_1NoPage(t *testing.T) {
	w := made(t, 40)
	w.grown(shuffled(30, 0)...)
	gone := w.set(0, 1, 1)
	w.drop(gone)
	before := w.all()
	for _, root := range append([]int{gone, 1, 39, 40, 4098}, edges...) {
		if root == 0 || slices.Contains(w.p.Pages(), root) {
			continue
		}
		wantError(t, "Check", btree.Check(w.p, root), api.ErrMissing)
		val, is := btree.Find(w.p, root, 1)
		if val != 0 || is || btree.Count(w.p, root) != 0 || len(btree.Pages(w.p, root)) != 0 || len(btree.Items(w.p, root, 0, -1)) != 0 {
			t.Errorf("%d has something", root)
		}
		w.refusesSet(root, -1, 1, api.ErrKey)
		w.refusesSet(root, 1, 1, api.ErrMissing)
		w.refusesDelete(root, 1, api.ErrMissing)
		w.refusesSwap(root, 0, map[int]int{}, nil, api.ErrMissing)
	}
	wantSame(t, "reading", w.all(), before)
}

// TestP12_1CheckMissing checks trees deep in which something is named that is no page any more. A store lets that be just if somebody else worked on its space.
func TestP12_1CheckMissing(t *testing.T) {
	for _, key := range []int{5, 6} { // The other leaf begins where it must, or not.
		w := made(t, 20)
		first := w.put(node.Node{Keys: []int{key}, Vals: []int{1}})
		lost := w.put(node.Node{Keys: []int{9}, Vals: []int{1}})
		lower := w.put(node.Node{Level: 1, Keys: []int{5, 9}, Vals: []int{first, lost}})
		root := w.put(node.Node{Level: 2, Keys: []int{5}, Vals: []int{lower}})
		must(t, "Give", w.s.Give(lost))
		if again := w.put(node.Node{Keys: []int{9}, Vals: []int{1}}); again != lost {
			t.Fatalf("Put: %d, not %d", again, lost)
		}
		must(t, "Scrap", w.p.Scrap(lost))
		wantError(t, "Check", btree.Check(w.p, root), api.ErrMissing)
		wantError(t, "Check", btree.Check(w.p, lower), api.ErrMissing)
	}
}

// TestP12_1CheckWrong checks trees that are not right, alone and deep in others.
func TestP12_1CheckWrong(t *testing.T) {
	type kids struct {
		keys   []int
		leaves [][]int
	}
	for _, wrong := range []kids{
		{[]int{4}, [][]int{{5}}}, {[]int{6}, [][]int{{5}}}, {[]int{7}, [][]int{{5, 7}}}, {[]int{0}, [][]int{{5, 7}}},
		{[]int{5, 9}, [][]int{{5}, {8}}}, {[]int{5, 9}, [][]int{{5}, {10}}}, {[]int{5, 9}, [][]int{{5}, {5}}}, {[]int{5, 9}, [][]int{{5}, {7, 9}}},
		{[]int{5, 9}, [][]int{{5, 9}, {9}}}, {[]int{5, 9}, [][]int{{5, 6, 7, 10}, {9}}}, {[]int{5, 9, 11}, [][]int{{5}, {9, 12}, {11}}}, {[]int{5, 9, 11}, [][]int{{5, 11}, {9}, {11}}},
		{[]int{5, 9, 11}, [][]int{{5, 10}, {9, 10}, {11}}},
	} {
		w := made(t, 60)
		root := w.grown(100, 101, 102)
		n := node.Node{Level: 1, Keys: wrong.keys}
		for _, keys := range wrong.leaves {
			n.Vals = append(n.Vals, w.put(node.Node{Keys: keys, Vals: slices.Repeat([]int{1}, len(keys))}))
		}
		addr := w.put(n)
		wantError(t, "Check", btree.Check(w.p, addr), api.ErrNode)
		right := w.put(node.Node{Level: 1, Keys: []int{100}, Vals: []int{root}})
		for level := 2; level <= levels; level++ {
			addr = w.put(node.Node{Level: level, Keys: []int{wrong.keys[0], 100}, Vals: []int{addr, right}})
			right = w.put(node.Node{Level: level, Keys: []int{100}, Vals: []int{right}})
			wantError(t, "Check", btree.Check(w.p, addr), api.ErrNode)
			must(t, "Check", btree.Check(w.p, right))
		}
	}
}

// TestP12_1CheckAbove checks trees of right trees of which one has keys that are not below the next place of a page far above.
func TestP12_1CheckAbove(t *testing.T) {
	for _, next := range []int{8, 9, 10} {
		w := made(t, 90)
		left := w.put(node.Node{Keys: []int{5, 9}, Vals: []int{1, 1}})
		first := w.put(node.Node{Keys: []int{1, 2}, Vals: []int{1, 1}})
		right := w.put(node.Node{Keys: []int{next}, Vals: []int{1}})
		left = w.put(node.Node{Level: 1, Keys: []int{1, 5}, Vals: []int{first, left}})
		right = w.put(node.Node{Level: 1, Keys: []int{next}, Vals: []int{right}})
		for level := 2; level <= levels; level++ {
			must(t, "Check", btree.Check(w.p, left))
			must(t, "Check", btree.Check(w.p, right))
			root := w.put(node.Node{Level: level, Keys: []int{1, next}, Vals: []int{left, right}})
			var want error
			if next <= 9 {
				want = api.ErrNode
			}
			wantError(t, "Check", btree.Check(w.p, root), want)
			left = w.put(node.Node{Level: level, Keys: []int{1}, Vals: []int{left}})
			right = w.put(node.Node{Level: level, Keys: []int{next}, Vals: []int{right}})
		}
	}
}

// TestP12_1CheckAgain checks trees that name a page again and again, on each Level: it ends, though there are more ways down than could be gone.
func TestP12_1CheckAgain(t *testing.T) {
	w := made(t, 60)
	addr := w.put(node.Node{Keys: []int{1}, Vals: []int{1}})
	for level := 1; level <= levels; level++ {
		addr = w.put(node.Node{Level: level, Keys: []int{1, 2, 3, 4, 5, 6, 7}, Vals: slices.Repeat([]int{addr}, 7)})
		wantError(t, "Check", btree.Check(w.p, addr), api.ErrNode)
		if got := btree.Pages(w.p, addr); len(got) != level+1 || !slices.IsSorted(got) {
			t.Errorf("Pages: %v", got)
		}
		btree.Count(w.p, addr)
	}
	w.hold(addr)
	w.refusesSwap(addr, -1, map[int]int{}, map[int]int{1: 0}, api.ErrKey)
	w.swap(addr, -1, map[int]int{}, map[int]int{1: 2})
}

// TestP12_2Set sets keys in many orders: new ones, and each once more.
func TestP12_2Set(t *testing.T) {
	for what, order := range orders(120) {
		w := made(t, 200)
		root, want := 0, map[int]int{}
		for again := range 2 {
			for _, key := range order {
				val := 1 + 7*key + again
				root = w.set(root, key, val)
				want[key] = val
				if got, is := btree.Find(w.p, root, key); got != val || !is {
					t.Fatalf("%s: Find(%d): %d, %t", what, key, got, is)
				}
				if w.p.Holds(root) != 1 || !slices.Equal(w.p.Pages(), btree.Pages(w.p, root)) || len(w.s.On(0)) != len(w.p.Pages()) {
					t.Fatalf("%s: %d holds; %v of %v", what, w.p.Holds(root), btree.Pages(w.p, root), w.p.Pages())
				}
				w.wantPairs(root, want)
				w.wantBound(root)
			}
		}
		w.drop(root)
		w.wantHolds(map[int]int{})
	}
}

// TestP12_2SetWritesAnew demands that a value is set by other pages, even if it is the one that the key has.
func TestP12_2SetWritesAnew(t *testing.T) {
	f := planted(made(t, 60), above(above(leafOf(1, 2), leafOf(5)), above(leafOf(8), leafOf(9, 11))))
	done := f.b.Done()
	f.set(0, 5, 1005, -1)
	if f.b.Done() != done+3 {
		t.Errorf("%d writes", f.b.Done()-done)
	}
	f.set(0, 12, 1, -1)
	f.wantReads(0)
}

// TestP12_2SetKeys sets at the ends of what keys and values may be, and past them.
func TestP12_2SetKeys(t *testing.T) {
	for _, keys := range [][]int{nil, {3}, shuffled(7, 0), shuffled(40, 0)} {
		w := made(t, 100)
		root := w.grown(keys...)
		for _, key := range edges {
			for _, val := range edges {
				if key < 0 || key > maxKey || val < 1 || val > maxVal {
					w.refusesSet(root, key, val, api.ErrKey)
					continue
				}
				root = w.set(root, key, val)
				if got, is := btree.Find(w.p, root, key); got != val || !is {
					t.Fatalf("Find(%d): %d, %t, not %d", key, got, is, val)
				}
			}
		}
		must(t, "Check", btree.Check(w.p, root))
	}
}

// TestP12_2Delete deletes all keys in many orders, till no page is left.
func TestP12_2Delete(t *testing.T) {
	for what, order := range orders(120) {
		for _, first := range []string{"rising", "shuffled"} {
			w := made(t, 200)
			root, want := 0, map[int]int{}
			for _, key := range orders(120)[first] {
				root = w.set(root, key, key+1)
				want[key] = key + 1
			}
			for _, key := range order {
				root = w.delete(root, key)
				delete(want, key)
				if got, is := btree.Find(w.p, root, key); got != 0 || is {
					t.Fatalf("%s: Find(%d): %d, %t", what, key, got, is)
				}
				if root != 0 && w.p.Holds(root) != 1 || !slices.Equal(w.p.Pages(), btree.Pages(w.p, root)) || len(w.s.On(0)) != len(w.p.Pages()) {
					t.Fatalf("%s: %d holds; %v of %v", what, w.p.Holds(root), btree.Pages(w.p, root), w.p.Pages())
				}
				w.wantPairs(root, want)
				w.wantBound(root)
			}
			if root != 0 {
				t.Fatalf("%s: %d is left", what, root)
			}
			w.wantHolds(map[int]int{})
			if w.s.Free() != 198 {
				t.Errorf("%s: Free: %d", what, w.s.Free())
			}
		}
	}
}

// TestP12_2DeleteMissing deletes keys that are not there, also where nothing can be written.
func TestP12_2DeleteMissing(t *testing.T) {
	for _, keys := range [][]int{nil, {3}, {0, 1, 3, 5, 7, maxKey}, shuffled(40, 0)} {
		for _, left := range []int{0, 1, 100} {
			w := made(t, 100)
			root := w.grown(keys...)
			for w.s.Free() > left {
				w.put(node.Node{Keys: []int{1}, Vals: []int{1}})
			}
			for _, key := range append([]int{4, 6, 44, 45}, edges...) {
				if !slices.Contains(keys, key) {
					w.refusesDelete(root, key, api.ErrMissing)
				}
			}
			w.b.Arm(0)
			w.b.Flush(0)
			w.refusesDelete(root, 45, api.ErrMissing)
		}
	}
}

// TestP12_2Roots deletes till roots name one page alone, which are left out, several at a time.
func TestP12_2Roots(t *testing.T) {
	left := above(above(leafOf(1)))
	for _, far := range []*page{above(above(leafOf(8))), above(above(leafOf(7)), above(leafOf(8)))} {
		f := planted(made(t, 60), above(left, far), above(left, far))
		done := f.b.Done()
		f.delete(0, 1, -1)
		if f.b.Done() != done && len(far.below) == 1 {
			t.Errorf("a root that is left out is written: %d", f.b.Done()-done)
		}
		if want := map[int]int{1: 0, 2: 2}[len(far.below)]; f.trees[0].page.level != want {
			t.Errorf("Level %d, not %d", f.trees[0].page.level, want)
		}
		f.wantReads(0)
		f.wantReads(1)
	}
	// They are left out behind any change.
	for level := 1; level <= levels; level++ {
		chain := leafOf(1, 2)
		for range level {
			chain = above(chain)
		}
		for _, c := range []call{{"Set", 1, 5}, {"Set", 9, 5}, {"Delete", 2, 0}} {
			f := planted(made(t, api.Slots+chain.count()+1), chain)
			f.does(0, c, -1)
			if f.trees[0].page.level != 0 || len(f.p.Pages()) != 1 {
				t.Errorf("%v are left of %d", f.p.Pages(), level)
			}
		}
	}
}

// TestP12_2Holds changes trees that are held more than once, and those that others name: just one hold goes.
func TestP12_2Holds(t *testing.T) {
	w := made(t, 100)
	root := w.grown(shuffled(20, 0)...)
	w.hold(root, root)
	before := w.all()
	first := w.set(root, 3, 5)
	if w.p.Holds(root) != 2 || w.p.Holds(first) != 1 {
		t.Errorf("%d and %d holds", w.p.Holds(root), w.p.Holds(first))
	}
	second := w.delete(root, 3)
	if w.p.Holds(root) != 1 || w.p.Holds(second) != 1 {
		t.Errorf("%d and %d holds", w.p.Holds(root), w.p.Holds(second))
	}
	w.hold(root, root)
	w.drop(first, second)
	wantSame(t, "all others are gone", w.all(), before)

	below := above(leafOf(1), leafOf(5))
	f := planted(made(t, 60), above(below, above(leafOf(8))), below)
	f.set(1, 1, 7, -1)
	f.delete(0, 8, -1)
	f.delete(0, 5, -1)
	f.delete(0, 1, -1)
	f.wantReads(0)
	f.wantReads(1)
}

// TestP12_2NotHeld changes trees that the caller does not hold: that is refused, and nothing is changed.
func TestP12_2NotHeld(t *testing.T) {
	for _, x := range []*page{leafOf(1), above(leafOf(1), leafOf(5)), above(above(leafOf(1)), above(leafOf(5)))} {
		f := planted(made(t, 60), above(x))
		named := f.at[x]
		f.refusesSet(named, 1, 5, api.ErrBusy)
		f.refusesSet(named, 9, 5, api.ErrBusy)
		f.refusesDelete(named, 1, api.ErrBusy)
		f.refusesSwap(named, 0, map[int]int{}, nil, api.ErrBusy)
		f.wantReads(0)
	}
}

// TestP12_2Gone demands that what is gone is given back as layer 8's Give does it, and so is what is put in vain.
func TestP12_2Gone(t *testing.T) {
	w := made(t, 30)
	root := w.grown(shuffled(8, 0)...)
	if w.s.Used(0) != 3 {
		t.Errorf("Used: %d", w.s.Used(0))
	}
	w.s.Settle()
	root = w.set(root, 1, 5)
	if w.s.Used(0) != 5 || w.s.Settle() != 2 || w.s.Used(0) != 3 {
		t.Errorf("Used: %d", w.s.Used(0))
	}
	root = w.set(w.set(root, 1, 6), 1, 7)
	if w.s.Used(0) != 5 || w.s.Settle() != 2 {
		t.Errorf("Used: %d", w.s.Used(0))
	}
	w.b.Arm(1)
	_, err := btree.Set(w.p, root, 1, 5)
	if err == nil || w.s.Used(0) != 3 || w.s.Settle() != 0 {
		t.Errorf("%v, Used: %d", err, w.s.Used(0))
	}
}

// TestP12_2Full sets where there is too little room: just what is not there is refused.
func TestP12_2Full(t *testing.T) {
	x := above(above(leafOf(1), leafOf(2), leafOf(3), leafOf(4), leafOf(5), leafOf(6), leafOf(11, 12, 13, 14, 15, 16, 17)), above(leafOf(20)))
	for room := range 8 {
		f := planted(made(t, api.Slots+x.count()+room), x)
		root := f.trees[0].root
		if room < 5 { // two leaves, two pages above them, the root
			f.refusesSet(root, 18, 1, api.ErrFull)
		}
		if room < 3 {
			f.refusesSet(root, 20, 1, api.ErrFull)
			f.refusesDelete(root, 11, api.ErrFull)
		}
		if room < 2 {
			f.refusesDelete(root, 1, api.ErrFull)
		}
		f.refusesSet(root, 18, 0, api.ErrKey)
		f.refusesDelete(root, 18, api.ErrMissing)
		f.set(0, 18, 1, -1)
		f.delete(0, 1, -1)
		f.delete(0, 20, -1)
	}
	w := made(t, 3)
	root := w.put(node.Node{Keys: []int{1}, Vals: []int{1}})
	w.hold(root)
	w.refusesSet(0, 1, 1, api.ErrFull)
	w.refusesSet(root, 1, 1, api.ErrFull)
	if w.delete(root, 1) != 0 { // for this nothing has to be written
		t.Errorf("a tree is left")
	}
}

// TestP12_2WriteFails changes trees where a write fails: the power goes, the device is gone, smaller, or not there.
func TestP12_2WriteFails(t *testing.T) {
	x := above(above(leafOf(1), leafOf(5, 6)), above(leafOf(8)))
	for arm := range 3 {
		for _, c := range []call{{"Set", 5, 1}, {"Delete", 5, 0}} {
			f := planted(made(t, 60), x)
			before, next := f.all(), api.Slots+x.count()+arm
			f.b.Arm(arm)
			root, err := 0, error(nil)
			if c.name == "Set" {
				root, err = btree.Set(f.p, f.trees[0].root, c.key, c.val)
			} else {
				root, err = btree.Delete(f.p, f.trees[0].root, c.key)
			}
			wantError(t, c.name, err, broken(next, api.ErrDown))
			if root != 0 {
				t.Errorf("%s tells %d beside an error", c.name, root)
			}
			wantSame(t, c.name, f.all(), before)
			f.b.Crash()
			f.does(0, c, -1)
		}
	}
	f := planted(made(t, 60, 70), x)
	root := f.trees[0].root
	must(t, "Detach", f.b.Detach(1))
	f.refusesSet(root, 5, 1, broken(4096+2+x.count(), api.ErrGone))
	f.refusesDelete(root, 5, broken(4096+2+x.count(), api.ErrGone))

	w := over(t, banked(t, 10), rostered(10, 10))
	root = w.set(0, 1, 1)
	w.refusesSet(root, 2, 2, broken(4098, api.ErrDevice))
	w.refusesSet(0, 2, 2, broken(4098, api.ErrDevice))
	w = over(t, banked(t, 4), rostered(10))
	root = w.set(0, 1, 1)
	for key := range 7 {
		root = w.set(root, key, 1)
	}
	w.refusesSet(root, 7, 1, broken(4, api.ErrRange))
}

// TestP12_2Levels sets a key that would let a root of the greatest Level become two.
func TestP12_2Levels(t *testing.T) {
	x := leafOf(91, 92, 93, 94, 95, 96, 97)
	for level := 1; level <= levels; level++ {
		var list []*page
		for i := range 6 {
			lower := leafOf(10 * i)
			if level > 1 {
				lower = leafOf(level*100 + 10*i)
			}
			for lower.level < level-1 {
				lower = above(lower)
			}
			list = append(list, lower)
		}
		// The page that is full stands first or last.
		if level > 1 {
			x = above(append([]*page{x}, list...)...)
		} else {
			x = above(append(list, x)...)
		}
	}
	f := planted(made(t, 2000), x)
	root := f.trees[0].root
	f.refusesSet(root, 98, 1, api.ErrNode)
	f.set(0, 97, 1, -1)
	f.delete(0, 96, -1)
	f.set(0, 98, 1, -1)
	f.wantReads(0)
}

// TestP12_2NotRight changes trees that are not right, of which little is promised: each call ends, and behind an error all is as it was.
func TestP12_2NotRight(t *testing.T) {
	w := made(t, 100)
	first := w.put(node.Node{Keys: []int{1, 7}, Vals: []int{1, 1}})
	second := w.put(node.Node{Keys: []int{3, 4}, Vals: []int{1, 1}})
	twice := w.put(node.Node{Level: 1, Keys: []int{0, 2, 5}, Vals: []int{first, first, second}})
	falling := w.put(node.Node{Level: 1, Keys: []int{6, 8}, Vals: []int{second, first}})
	for _, root := range []int{twice, falling, w.put(node.Node{Level: 2, Keys: []int{2, 3}, Vals: []int{falling, twice}})} {
		w.hold(root)
		for key := range 10 {
			for _, call := range []func() (int, error){
				func() (int, error) { return btree.Set(w.p, root, key, 5) },
				func() (int, error) { return btree.Delete(w.p, root, key) },
				func() (int, error) { return btree.Swap(w.p, root, key%2, map[int]int{}, map[int]int{1: key}) },
			} {
				w.hold(root)
				before := w.all()
				w.begin()
				_, err := call()
				w.back()
				to, again := call()
				if !reflect.DeepEqual(again, err) || err == nil && w.p.Holds(to) == 0 {
					t.Fatalf("%v, and then %d, %v", err, to, again)
				}
				if err != nil {
					wantSame(t, "what is refused", w.all(), before)
					w.drop(root)
				}
			}
		}
	}
}

// TestP12_2Begun changes trees behind Begin: what is taken back is as it was, and what is not stays.
func TestP12_2Begun(t *testing.T) {
	w := made(t, 100)
	root := w.grown(shuffled(20, 0)...)
	w.s.Settle()
	root = w.set(root, 5, 5)
	before := w.all()
	w.begin()
	other := root
	for key := range 20 {
		other = w.delete(w.set(other, key+40, 7), key)
	}
	must(t, "Check", btree.Check(w.p, other))
	w.back()
	wantSame(t, "Back", w.all(), before)
	w.begin()
	root = w.set(root, 6, 7)
	must(t, "Commit", w.p.Commit())
	must(t, "space.Commit", w.s.Commit())
	if got, is := btree.Find(w.p, root, 6); got != 7 || !is || !slices.Equal(w.p.Pages(), btree.Pages(w.p, root)) {
		t.Errorf("Find: %d, %t", got, is)
	}
}

// TestP12_3Bound demands the bound of pages over long sequences in which trees grow and shrink.
func TestP12_3Bound(t *testing.T) {
	for run := range 8 {
		next := numbers(run)
		w := made(t, 400)
		root, want := 0, map[int]int{}
		for step := range 1500 {
			key := next.below(300)
			if _, is := want[key]; is && (step/200%2 == 1 || next.below(3) == 0) {
				root = w.delete(root, key)
				delete(want, key)
			} else if step/200%2 == 0 || next.below(9) == 0 {
				root = w.set(root, key, 1+step)
				want[key] = 1 + step
			}
			w.wantBound(root)
		}
		w.wantPairs(root, want)
		for key := range want {
			root = w.delete(root, key)
			w.wantBound(root)
		}
		w.wantHolds(map[int]int{})
	}
}

// TestP12_3Others changes a tree, of which others were made that share pages with it, and wants them to have what they had.
func TestP12_3Others(t *testing.T) {
	w := made(t, 4000)
	next := numbers(3)
	root, want := w.grown(shuffled(60, 1)...), map[int]int{}
	for key := range 60 {
		want[key] = key + 1000
	}
	var others []int
	var had []map[int]int
	for step := range 120 {
		w.hold(root)
		others, had = append(others, root), append(had, maps.Clone(want))
		if key := next.below(70); step%3 > 0 && want[key] > 0 {
			root = w.delete(root, key)
			delete(want, key)
		} else {
			root = w.set(root, key, 1+step)
			want[key] = 1 + step
		}
		w.wantPairs(root, want)
		for i, other := range others {
			w.wantPairs(other, had[i])
		}
	}
	for i, other := range others {
		w.drop(other)
		for j, later := range others[i+1:] {
			w.wantPairs(later, had[i+1+j])
		}
	}
	if !slices.Equal(w.p.Pages(), btree.Pages(w.p, root)) {
		t.Errorf("%v are left, not %v", w.p.Pages(), btree.Pages(w.p, root))
	}
}
