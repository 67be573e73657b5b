package catalog_test

import (
	"math"
	"reflect"
	"slices"
	"testing"

	"portage/api"
	"portage/bank"
	"portage/btree"
	"portage/catalog"
	"portage/fault"
	"portage/node"
	"portage/pages"
	"portage/roster"
	"portage/space"
)

// The greatest Id or Origin, and the greatest Root.
const (
	maxId   = 1 << 20
	maxRoot = 1 << 61
)

// edges are numbers at the ends of what Ids, Sizes, Roots and devices may be, and past them.
var edges = []int{math.MinInt, math.MinInt + 1, -maxRoot, math.MinInt32, -maxId, -4096, -2, -1, 0, 1, 2, 31, 32, 33, 4096, api.MaxBlocks - 1, api.MaxBlocks, api.MaxBlocks + 1, maxId*4 + 1, math.MaxInt32, 1 << 32, 1<<32 + 1, 1 << 40, maxRoot - 1, maxRoot, maxRoot + 1, 1<<62 + 1, math.MaxInt - 1, math.MaxInt}

// world is a catalog with its store, and the bank and the space of that.
type world struct {
	*testing.T
	b *bank.Bank
	s *space.Space
	p *pages.Store
	c *catalog.Catalog
}

// must demands that a call is not refused.
func must(t *testing.T, what string, err error) {
	t.Helper()
	if err != nil {
		t.Fatalf("%s: %v", what, err)
	}
}

// wantError demands that err is just this one: the same faults around the same code.
func wantError(t *testing.T, what string, err, want error) {
	t.Helper()
	if !reflect.DeepEqual(err, want) {
		t.Fatalf("%s: %v, not %v", what, err, want)
	}
}

// inPage is the fault of a page at an address.
func inPage(addr int, err error) error {
	device, sector := space.At(addr)
	return fault.Wrap("page", device, sector, err)
}

// broken is the fault of a read or a write at an address, within a page's.
func broken(op string, addr int, code api.Code) error {
	device, sector := space.At(addr)
	return inPage(addr, fault.Wrap(op, device, sector, code))
}

// banked is a bank with devices of so many sectors.
func banked(t *testing.T, sizes ...int) *bank.Bank {
	t.Helper()
	b := bank.New()
	for _, size := range sizes {
		_, err := b.Add(size)
		must(t, "Add", err)
	}
	return b
}

// rostered is a roster of Active devices of so many sectors.
func rostered(sizes ...int) roster.Roster {
	var r roster.Roster
	for _, size := range sizes {
		r.List = append(r.List, roster.Entry{State: api.Active, Size: size})
	}
	return r
}

// over is a catalog without volumes, with a store that knows no page, over this bank and a space of its own.
func over(t *testing.T, b *bank.Bank, r roster.Roster) *world {
	t.Helper()
	s, err := space.New(r)
	must(t, "space.New", err)
	p := pages.New(b, s)
	return &world{t, b, s, p, catalog.New(p)}
}

// made is a catalog over new devices of so many sectors.
func made(t *testing.T, sizes ...int) *world {
	t.Helper()
	return over(t, banked(t, sizes...), rostered(sizes...))
}

// another is the same bank and the same roster with another space and another store, and the catalog that is loaded from a tree.
func (w *world) another(root int) *world {
	w.Helper()
	other := over(w.T, w.b, w.s.Roster())
	c, err := catalog.Load(other.p, root)
	must(w.T, "Load", err)
	other.c = c
	return other
}

func (w *world) put(list ...catalog.Volume) {
	w.Helper()
	for _, v := range list {
		must(w.T, "Put", w.c.Put(v))
	}
}

func (w *world) remove(ids ...int) {
	w.Helper()
	for _, id := range ids {
		must(w.T, "Remove", w.c.Remove(id))
	}
}

func (w *world) save() {
	w.Helper()
	must(w.T, "Save", w.c.Save())
}

func (w *world) leave(device int) {
	w.Helper()
	must(w.T, "Leave", w.c.Leave(device))
}

// begin, commit and back are done to the catalog, the store and the space alike.
func (w *world) begin() {
	w.Helper()
	must(w.T, "space.Begin", w.s.Begin())
	must(w.T, "pages.Begin", w.p.Begin())
	must(w.T, "Begin", w.c.Begin())
}

func (w *world) commit() {
	w.Helper()
	must(w.T, "Commit", w.c.Commit())
	must(w.T, "pages.Commit", w.p.Commit())
	must(w.T, "space.Commit", w.s.Commit())
}

func (w *world) back() {
	w.Helper()
	must(w.T, "Back", w.c.Back())
	must(w.T, "pages.Back", w.p.Back())
	must(w.T, "space.Back", w.s.Back())
}

// drain lets nothing new be taken on a device.
func (w *world) drain(device int) {
	w.Helper()
	r, err := w.s.Roster().Drain(device)
	must(w.T, "Drain", err)
	must(w.T, "Turn", w.s.Turn(r))
}

// grow lets the device 0 have more room.
func (w *world) grow(more int) {
	w.Helper()
	must(w.T, "bank.Grow", w.b.Grow(0, more))
	r := w.s.Roster()
	r.List[0].Size += more
	must(w.T, "Turn", w.s.Turn(r))
}

// fill takes all addresses but so many.
func (w *world) fill(left int) {
	w.Helper()
	for w.s.Free() > left {
		_, err := w.s.Take()
		must(w.T, "Take", err)
	}
}

// tree is a tree with these keys, held once.
func (w *world) tree(keys ...int) int {
	w.Helper()
	root := 0
	for _, key := range keys {
		to, err := btree.Set(w.p, root, key, key+1000)
		must(w.T, "Set", err)
		root = to
	}
	return root
}

// pairsOf are the chapter's pairs of volumes, by their keys.
func pairsOf(list ...catalog.Volume) map[int]int {
	pairs := map[int]int{}
	for _, v := range list {
		pairs[4*v.Id] = v.Size
		if v.Root != 0 {
			pairs[4*v.Id+1] = v.Root
		}
		if v.Origin != 0 {
			pairs[4*v.Id+2] = v.Origin
		}
	}
	return pairs
}

// stands are the pairs that the catalog's tree has, which must be right.
func (w *world) stands() map[int]int {
	w.Helper()
	must(w.T, "Check", btree.Check(w.p, w.c.Root()))
	pairs := map[int]int{}
	for _, pair := range btree.Items(w.p, w.c.Root(), math.MinInt, -1) {
		pairs[pair.Key] = pair.Val
	}
	return pairs
}

// wantPairs demands that the catalog's tree has just these pairs, and that the catalog holds it once.
func (w *world) wantPairs(want map[int]int) {
	w.Helper()
	if got := w.stands(); !reflect.DeepEqual(got, want) {
		w.Fatalf("the tree has %v, not %v", got, want)
	}
	if root := w.c.Root(); (root == 0) != (len(want) == 0) || root != 0 && w.p.Holds(root) != 1 {
		w.Fatalf("the tree %d has %d holds", root, w.p.Holds(root))
	}
}

// wantSaved demands that the tree has the pairs of just these volumes, and so has what is loaded from it.
func (w *world) wantSaved(list ...catalog.Volume) {
	w.Helper()
	w.wantPairs(pairsOf(list...))
}

// wantOwn demands that the pages in the store are those of the catalog's tree and of these others, that no others are taken in the space, and that none has a hold too much.
func (w *world) wantOwn(others ...int) {
	w.Helper()
	var want []int
	holds := map[int]int{}
	for _, root := range append(others, w.c.Root()) {
		if root != 0 {
			holds[root]++
		}
		want = append(want, btree.Pages(w.p, root)...)
	}
	slices.Sort(want)
	want = slices.Compact(want)
	if got := w.p.Pages(); !slices.Equal(got, want) {
		w.Fatalf("Pages: %v, not %v", got, want)
	}
	for _, addr := range want {
		n, err := w.p.Get(addr)
		must(w.T, "Get", err)
		if n.Level > 0 {
			for _, lower := range n.Vals {
				holds[lower]++
			}
		}
	}
	var taken []int
	for device := range w.s.Roster().List {
		taken = append(taken, w.s.On(device)...)
	}
	for _, addr := range want {
		if w.p.Holds(addr) != holds[addr] || !slices.Contains(taken, addr) {
			w.Fatalf("the page %d has %d holds, not %d; taken are %v", addr, w.p.Holds(addr), holds[addr], taken)
		}
	}
}

// wantList demands what List tells, and Find of each Id, of those beside it, and of others.
func (w *world) wantList(want ...catalog.Volume) {
	w.Helper()
	if got := w.c.List(); !slices.Equal(got, want) {
		w.Fatalf("List: %v, not %v", got, want)
	}
	ids := slices.Clone(edges)
	for _, v := range want {
		ids = append(ids, v.Id-1, v.Id, v.Id+1, -v.Id, v.Id+1<<32)
	}
	for _, id := range ids {
		at := slices.IndexFunc(want, func(v catalog.Volume) bool { return v.Id == id })
		got, is := w.c.Find(id)
		if is != (at >= 0) || is && got != want[at] || !is && got != (catalog.Volume{}) {
			w.Fatalf("Find(%d): %v, %t", id, got, is)
		}
	}
}

// told is all that a catalog, its store and its space tell.
type told struct {
	Volumes []catalog.Volume
	Root    int
	Nodes   map[int]node.Node
	Holds   map[int]int
	On      [api.MaxDevices][]int
	Used    [api.MaxDevices]int
	Free    int
}

// tells is all that the catalog, the store and the space tell.
func (w *world) tells() told {
	w.Helper()
	x := told{Volumes: w.c.List(), Root: w.c.Root(), Nodes: map[int]node.Node{}, Holds: map[int]int{}, Free: w.s.Free()}
	if len(x.Volumes) == 0 {
		x.Volumes = nil
	}
	for _, addr := range w.p.Pages() {
		n, err := w.p.Get(addr)
		must(w.T, "Get", err)
		x.Nodes[addr], x.Holds[addr] = n, w.p.Holds(addr)
	}
	for device := range api.MaxDevices {
		x.On[device], x.Used[device] = w.s.On(device), w.s.Used(device)
	}
	return x
}

// wantSame demands that all is told as before.
func wantSame(t *testing.T, what string, got, want told) {
	t.Helper()
	if !reflect.DeepEqual(got, want) {
		t.Fatalf("%s: %+v, not %+v", what, got, want)
	}
}

// refuses demands that a call tells this error, and that nothing is changed: neither if nothing is begun, nor behind Begin.
func (w *world) refuses(what string, want error, call func() error) {
	w.Helper()
	before := w.tells()
	wantError(w.T, what, call(), want)
	wantSame(w.T, what, w.tells(), before)
	w.begin()
	wantError(w.T, what, call(), want)
	wantSame(w.T, what, w.tells(), before)
	w.back()
	wantSame(w.T, what, w.tells(), before)
}

func (w *world) refusesPut(v catalog.Volume, want error) {
	w.Helper()
	w.refuses("Put", want, func() error { return w.c.Put(v) })
}

func (w *world) refusesRemove(id int, want error) {
	w.Helper()
	w.refuses("Remove", want, func() error { return w.c.Remove(id) })
}

// many are so many volumes with Ids from 1 on, of which some have a Root, some an Origin, and some both.
func many(count int) []catalog.Volume {
	var list []catalog.Volume
	for i := range count {
		list = append(list, catalog.Volume{Id: i + 1, Size: 10 + i, Root: i % 2 * (500 + i), Origin: i / 2 % 2 * (i + 7)})
	}
	return list
}

func TestP13Example(t *testing.T) {
	w := made(t, 100)
	one, two := catalog.Volume{Id: 1, Size: 100}, catalog.Volume{Id: 2, Size: 100, Origin: 1}
	w.put(one, two)
	w.save()
	w.wantPairs(map[int]int{4: 100, 8: 100, 10: 1})
	w.another(w.c.Root()).wantList(one, two)
}

func TestP13_1New(t *testing.T) {
	w := made(t, 20)
	w.wantList()
	if w.c.Root() != 0 {
		t.Errorf("Root: %d", w.c.Root())
	}
	w.wantSaved()
	w.wantOwn()
	// A store that has pages already is no other catalog's.
	w.put(catalog.Volume{Id: 1, Size: 1})
	w.save()
	c := catalog.New(w.p)
	if len(c.List()) != 0 || c.Root() != 0 {
		t.Errorf("List: %v, Root: %d", c.List(), c.Root())
	}
}

// TestP13_1Right puts volumes with each number at both ends of what it may be, and past them, and at any other edge.
func TestP13_1Right(t *testing.T) {
	for _, field := range []struct {
		name        string
		of          func(v *catalog.Volume) *int
		least, most int
	}{
		{"Id", func(v *catalog.Volume) *int { return &v.Id }, 1, maxId},
		{"Size", func(v *catalog.Volume) *int { return &v.Size }, 1, api.MaxBlocks},
		{"Root", func(v *catalog.Volume) *int { return &v.Root }, 0, maxRoot},
		{"Origin", func(v *catalog.Volume) *int { return &v.Origin }, 0, maxId},
	} {
		for _, number := range append([]int{field.least - 1, field.least, field.most, field.most + 1}, edges...) {
			for _, v := range []catalog.Volume{{Id: 5, Size: 7}, {Id: maxId, Size: api.MaxBlocks, Root: maxRoot, Origin: maxId}} {
				w := made(t, 20)
				*field.of(&v) = number
				if number < field.least || number > field.most {
					w.refusesPut(v, api.ErrVolume)
					w.wantList()
					continue
				}
				w.put(v)
				w.wantList(v)
				w.save()
				w.wantSaved(v)
			}
		}
	}
}

// TestP13_1Origin demands that an Origin need not be there, and may be the volume itself.
func TestP13_1Origin(t *testing.T) {
	w := made(t, 20)
	list := []catalog.Volume{{Id: 2, Size: 1, Origin: 9}, {Id: 3, Size: 1, Origin: 3}, {Id: 4, Size: 1, Origin: 2}}
	w.put(list...)
	w.remove(2)
	w.wantList(list[1:]...)
	w.save()
	w.wantSaved(list[1:]...)
}

func TestP13_1PutInPlace(t *testing.T) {
	w := made(t, 20)
	w.put(catalog.Volume{Id: 4, Size: 9, Root: 8, Origin: 7}, catalog.Volume{Id: 2, Size: 6})
	w.put(catalog.Volume{Id: 4, Size: 3})
	w.wantList(catalog.Volume{Id: 2, Size: 6}, catalog.Volume{Id: 4, Size: 3})
	w.put(catalog.Volume{Id: 2, Size: 6, Origin: 4}, catalog.Volume{Id: 2, Size: 6, Root: 5})
	w.wantList(catalog.Volume{Id: 2, Size: 6, Root: 5}, catalog.Volume{Id: 4, Size: 3})
	// One that is not right leaves the one that is there.
	w.refusesPut(catalog.Volume{Id: 2, Size: 0}, api.ErrVolume)
	w.wantList(catalog.Volume{Id: 2, Size: 6, Root: 5}, catalog.Volume{Id: 4, Size: 3})
}

func TestP13_1Many(t *testing.T) {
	w := made(t, 100)
	list := many(api.MaxVolumes)
	for i, v := range list {
		w.put(v)
		w.wantList(list[:i+1]...)
	}
	w.refusesPut(catalog.Volume{Id: 33, Size: 1}, api.ErrMany)
	w.refusesPut(catalog.Volume{Id: maxId, Size: api.MaxBlocks, Root: maxRoot, Origin: maxId}, api.ErrMany)
	for _, v := range []catalog.Volume{{}, {Id: 33}, {Id: maxId + 1, Size: 1}, {Id: 33, Size: 1, Root: -1}, {Id: 33, Size: 1, Origin: -1}, {Id: 3}} {
		w.refusesPut(v, api.ErrVolume)
	}
	list[6] = catalog.Volume{Id: 7, Size: 77, Root: 77, Origin: 77}
	w.put(list[6])
	w.wantList(list...)
	w.remove(5)
	w.put(catalog.Volume{Id: 33, Size: 1})
	w.refusesPut(catalog.Volume{Id: 5, Size: 1}, api.ErrMany)
	w.remove(33)
	w.put(list[4])
	w.wantList(list...)
}

// TestP13_1ManyAtAll demands that how many there are is asked, not how many were saved or have been.
func TestP13_1ManyAtAll(t *testing.T) {
	w := made(t, 100)
	for round := range 3 {
		var list []catalog.Volume
		for i := range api.MaxVolumes {
			list = append(list, catalog.Volume{Id: 100*round + i + 1, Size: 1 + i})
		}
		w.put(list...)
		w.refusesPut(catalog.Volume{Id: 999, Size: 1}, api.ErrMany)
		if round == 1 {
			w.save()
		}
		for _, v := range list {
			w.remove(v.Id)
		}
		w.wantList()
	}
}

func TestP13_1Remove(t *testing.T) {
	w := made(t, 20)
	for _, id := range edges {
		w.refusesRemove(id, api.ErrMissing)
	}
	list := []catalog.Volume{{Id: 1, Size: 1}, {Id: 7, Size: 2, Origin: 1}, {Id: maxId, Size: 3}}
	w.put(list...)
	for _, id := range edges {
		if id != 1 && id != maxId {
			w.refusesRemove(id, api.ErrMissing)
		}
	}
	w.remove(7)
	w.wantList(list[0], list[2])
	w.refusesRemove(7, api.ErrMissing)
	w.remove(1)
	w.wantList(list[2])
	w.remove(maxId)
	w.wantList()
	w.refusesRemove(maxId, api.ErrMissing)
	w.put(list[1])
	w.wantList(list[1])
}

// TestP13_1Rising puts volumes in several orders, and takes them away in others.
func TestP13_1Rising(t *testing.T) {
	for run := range 20 {
		next := numbers(run)
		w := made(t, 100)
		list := many(20)
		for i := range list {
			list[i].Id *= 1 + run*run*7
		}
		for _, i := range shuffled(len(list), &next) {
			w.put(list[i])
		}
		w.wantList(list...)
		for _, i := range shuffled(len(list), &next) {
			v := list[slices.IndexFunc(list, func(v catalog.Volume) bool { return v.Id == (i+1)*(1+run*run*7) })]
			w.remove(v.Id)
			list = slices.DeleteFunc(list, func(o catalog.Volume) bool { return o == v })
			w.wantList(list...)
		}
	}
}

// TestP13_1NoPages demands that volumes come and go without the store: it is neither asked nor changed till they are saved.
func TestP13_1NoPages(t *testing.T) {
	w := made(t, 20)
	w.b.Arm(0)
	w.fill(0)
	before := w.tells()
	w.put(many(32)...)
	w.remove(5, 6)
	w.put(catalog.Volume{Id: 4, Size: 9, Root: 2})
	after := w.tells()
	after.Volumes = nil
	wantSame(t, "Put and Remove", after, before)
	if w.b.Done() != 0 {
		t.Errorf("%d writes", w.b.Done())
	}
}

// TestP13_1Holds demands that the trees of the volumes are left to those who hold them.
func TestP13_1Holds(t *testing.T) {
	w := made(t, 60)
	root := w.tree(1, 2, 3)
	w.put(catalog.Volume{Id: 1, Size: 5, Root: root}, catalog.Volume{Id: 2, Size: 5, Root: root})
	w.save()
	w.wantOwn(root)
	w.remove(1)
	w.save()
	w.put(catalog.Volume{Id: 2, Size: 5})
	w.save()
	w.wantOwn(root)
	w.remove(2)
	w.save()
	w.wantOwn(root)
}

// TestP13_1Apart demands that two catalogs of one store know nothing of one another.
func TestP13_1Apart(t *testing.T) {
	w := made(t, 60)
	other := &world{t, w.b, w.s, w.p, catalog.New(w.p)}
	w.put(many(3)...)
	other.put(catalog.Volume{Id: 2, Size: 9})
	w.save()
	other.save()
	w.wantList(many(3)...)
	other.wantList(catalog.Volume{Id: 2, Size: 9})
	w.wantSaved(many(3)...)
	other.wantSaved(catalog.Volume{Id: 2, Size: 9})
	w.wantOwn(other.c.Root())
}
