package catalog_test

import (
	"errors"
	"maps"
	"math"
	"slices"
	"testing"

	"portage/api"
	"portage/btree"
	"portage/catalog"
)

// model is a catalog as the chapter's words put it: its volumes, the pairs that its tree has, and the tree.
type model struct {
	volumes map[int]catalog.Volume
	tree    map[int]int
	root    int
	saved   *model
}

func newModel() *model { return &model{volumes: map[int]catalog.Volume{}, tree: map[int]int{}} }

// list are the volumes by rising Id.
func (m *model) list() []catalog.Volume {
	var list []catalog.Volume
	for _, id := range slices.Sorted(maps.Keys(m.volumes)) {
		list = append(list, m.volumes[id])
	}
	return list
}

// call is a call that changes a catalog, with what it is handed.
type call struct {
	name   string
	volume catalog.Volume
	number int
}

// put is the chapter's sentence about Put.
func (m *model) put(v catalog.Volume) error {
	if v.Id < 1 || v.Id > maxId || v.Size < 1 || v.Size > api.MaxBlocks || v.Root < 0 || v.Root > maxRoot || v.Origin < 0 || v.Origin > maxId {
		return api.ErrVolume
	}
	if _, is := m.volumes[v.Id]; !is && len(m.volumes) == api.MaxVolumes {
		return api.ErrMany
	}
	m.volumes[v.Id] = v
	return nil
}

// remove is the chapter's sentence about Remove.
func (m *model) remove(id int) error {
	if _, is := m.volumes[id]; !is {
		return api.ErrMissing
	}
	delete(m.volumes, id)
	return nil
}

// endOrBegin is the chapter's sentence about Begin, Commit and Back.
func (m *model) endOrBegin(name string) error {
	if (m.saved != nil) == (name == "Begin") {
		return api.ErrBusy
	}
	switch name {
	case "Begin":
		m.saved = &model{volumes: maps.Clone(m.volumes), tree: maps.Clone(m.tree), root: m.root}
	case "Commit":
		m.saved = nil
	case "Back":
		*m = *m.saved
	}
	return nil
}

// wantSave demands that Save makes the tree have the pairs of the volumes, or stops as far as it came, with an error of the store.
func (w *world) wantSave(m *model) {
	w.Helper()
	shall := pairsOf(m.list()...)
	done := w.b.Done()
	err := w.c.Save()
	m.root = w.c.Root()
	switch {
	case err == nil && maps.Equal(m.tree, shall) && w.b.Done() != done:
		w.Fatalf("Save writes, but nothing differs")
	case err == nil:
		m.tree = shall
	case !errors.Is(err, api.ErrFull) && !errors.Is(err, api.ErrDown):
		w.Fatalf("Save: %v", err)
	case maps.Equal(m.tree, shall):
		w.Fatalf("Save: %v, but nothing differs", err)
	default:
		m.tree = w.wantBetween(m.tree, shall)
	}
}

// wantBetween demands that each pair of the tree is as it was, or as it shall be, but not all are as they shall be, and tells them.
func (w *world) wantBetween(was, shall map[int]int) map[int]int {
	w.Helper()
	now := w.stands()
	if differs(now, shall) == 0 || differs(was, now)+differs(now, shall) < differs(was, shall) {
		w.Fatalf("the tree has %v, it had %v, and shall have %v", now, was, shall)
	}
	for key, val := range now {
		if was[key] != val && shall[key] != val {
			w.Fatalf("the tree has %v, it had %v, and shall have %v", now, was, shall)
		}
	}
	return now
}

// wantLeave demands that Leave leaves a device, or changes nothing.
func (w *world) wantLeave(m *model, device int) {
	w.Helper()
	was := w.on(device)
	before := w.tells()
	err := w.c.Leave(device)
	if err == nil {
		m.root = w.c.Root()
		if n := kept(w, m.root, was); n != 0 {
			w.Fatalf("Leave(%d): %d pages stay", device, n)
		}
		return
	}
	if len(was) == 0 || !errors.Is(err, api.ErrFull) && !errors.Is(err, api.ErrDown) {
		w.Fatalf("Leave(%d): %v", device, err)
	}
	wantSame(w.T, "Leave", w.tells(), before)
}

// wantLike demands that a catalog answers a call as the chapter's words do.
func (w *world) wantLike(m *model, c call) {
	w.Helper()
	switch c.name {
	case "Put":
		wantError(w.T, "Put", w.c.Put(c.volume), m.put(c.volume))
	case "Remove":
		wantError(w.T, "Remove", w.c.Remove(c.number), m.remove(c.number))
	case "Save":
		w.wantSave(m)
	case "Leave":
		w.wantLeave(m, c.number)
	default:
		calls := map[string]func() error{"Begin": w.c.Begin, "Commit": w.c.Commit, "Back": w.c.Back}
		want := m.endOrBegin(c.name)
		wantError(w.T, c.name, calls[c.name](), want)
		if want == nil {
			w.along(c.name)
		}
	}
}

// along begins or ends what the store and the space do, as the catalog did.
func (w *world) along(name string) {
	w.Helper()
	for _, call := range map[string][]func() error{
		"Begin":  {w.s.Begin, w.p.Begin},
		"Commit": {w.p.Commit, w.s.Commit},
		"Back":   {w.p.Back, w.s.Back},
	}[name] {
		must(w.T, name, call())
	}
}

// wantTold demands that a catalog tells all as the chapter's words put it, and that its tree and these others are all that there is.
func (w *world) wantTold(m *model, others ...int) {
	w.Helper()
	if got := w.c.List(); !slices.Equal(got, m.list()) {
		w.Fatalf("List: %v, not %v", got, m.list())
	}
	for id := -1; id <= 50; id++ {
		v, is := w.c.Find(id)
		want, has := m.volumes[id]
		if v != want || is != has {
			w.Fatalf("Find(%d): %v, %t, not %v, %t", id, v, is, want, has)
		}
	}
	if w.c.Root() != m.root {
		w.Fatalf("Root: %d, not %d", w.c.Root(), m.root)
	}
	w.wantPairs(m.tree)
	w.wantOwn(others...)
}

// wantReload demands what another store tells of the tree, and tells the world that was loaded, nil if there is none.
func (w *world) wantReload(m *model) *world {
	w.Helper()
	list, is := volumesIn(m.tree)
	if !is {
		w.refusesLoad(m.root, api.ErrNode)
		return nil
	}
	other := w.another(m.root)
	other.wantList(list...)
	other.wantPairs(m.tree)
	return other
}

// TestP13Small lets catalogs go through all sequences of a few calls, with volumes at which the chapter tells cases apart, and holds all that they answer against the chapter's words.
func TestP13Small(t *testing.T) {
	first := made(t, 40, 30)
	tree := first.tree(1, 2)
	one := call{name: "Put", volume: catalog.Volume{Id: 1, Size: 5}}
	calls := []call{
		one, {name: "Put", volume: catalog.Volume{Id: 1, Size: 6, Root: tree}}, {name: "Put", volume: catalog.Volume{Id: 2, Size: 5, Origin: 1}}, {name: "Put", volume: catalog.Volume{Id: 2}},
		{name: "Remove", number: 1}, {name: "Remove", number: 2}, {name: "Save"}, {name: "Leave"}, {name: "Begin"}, {name: "Commit"}, {name: "Back"},
	}
	for _, ahead := range [][]call{nil, {one, calls[2], {name: "Save"}}, {one, {name: "Save"}, {name: "Begin"}}} {
		for length, count := 1, len(calls); length <= 4; length, count = length+1, count*len(calls) {
			for sequence := range count {
				w, m := made(t, 40, 30), newModel()
				w.tree(1, 2)
				for _, c := range ahead {
					w.wantLike(m, c)
				}
				for range length {
					w.wantLike(m, calls[sequence%len(calls)])
					sequence /= len(calls)
				}
				w.wantTold(m, tree)
				w.wantReload(m)
			}
		}
	}
}

// numbers tells numbers in an order that is always the same, and looks like none.
type numbers uint64

func (n *numbers) below(limit int) int {
	*n = *n*6364136223846793005 + 1442695040888963407
	return int(uint64(*n)>>33) % limit
}

// shuffled are the numbers from 0 on, in an order that is always the same.
func shuffled(count int, next *numbers) []int {
	list := make([]int, count)
	for i := range list {
		at := next.below(i + 1)
		list[i] = list[at]
		list[at] = i
	}
	return list
}

// volume is some volume, whose tree is one of these. Few are not right.
func (n *numbers) volume(trees []int) catalog.Volume {
	v := catalog.Volume{Id: 1 + n.below(45), Size: 1 + n.below(9), Root: trees[n.below(len(trees))], Origin: n.below(3) * n.below(40)}
	if n.below(15) == 0 {
		field := []*int{&v.Id, &v.Size, &v.Origin}[n.below(3)]
		*field = edges[n.below(len(edges))]
	}
	if n.below(60) == 0 {
		v.Root = -1 - n.below(5)
	}
	return v
}

// call is some call.
func (n *numbers) call(trees []int, devices int) call {
	c := call{name: []string{"Put", "Put", "Put", "Put", "Put", "Remove", "Remove", "Remove", "Save", "Leave", "Begin", "Commit", "Back"}[n.below(13)]}
	c.volume = n.volume(trees)
	switch c.name {
	case "Remove":
		c.number = 1 + n.below(45)
	case "Leave":
		c.number = n.below(devices+2) - 1
	}
	return c
}

// drain lets nothing new be taken on a device, or all be taken again.
func (n *numbers) drain(w *world) {
	w.Helper()
	r := w.s.Roster()
	e := &r.List[n.below(len(r.List))]
	e.State = api.Active + api.Draining - e.State
	if r.Check() == nil {
		must(w.T, "Turn", w.s.Turn(r))
	}
}

// cut lets the power go at a write of a call, and keeps all that was written.
func (n *numbers) cut(w *world, call func()) {
	w.Helper()
	w.b.Arm(n.below(12))
	call()
	w.b.Crash(slices.Repeat([]int{math.MaxInt}, w.b.Pending())...)
}

// run is a catalog that goes through many calls, with the trees of volumes that are held.
type run struct {
	*world
	m     *model
	trees []int
}

// reload goes over to what another store tells, whose trees are those that the volumes had as they were saved.
func (r *run) reload() {
	r.Helper()
	other := r.wantReload(r.m)
	if other == nil {
		return
	}
	next := &model{volumes: map[int]catalog.Volume{}, tree: r.m.tree, root: r.m.root}
	r.trees = nil
	for _, v := range other.c.List() {
		next.volumes[v.Id] = v
		if v.Root != 0 {
			r.trees = append(r.trees, v.Root)
		}
	}
	r.world, r.m = other, next
}

// grow has one more tree, if there is room for it, and there are few.
func (r *run) grow(key int) {
	if len(r.trees) > 5 {
		return
	}
	if root, err := btree.Set(r.p, 0, key, 5); err == nil {
		r.trees = append(r.trees, root)
	}
}

// step does something, most often with a power that stays.
func (r *run) step(next *numbers) {
	r.Helper()
	switch kind := next.below(40); {
	case kind == 0:
		next.drain(r.world)
	case kind == 1 && r.m.saved == nil:
		// Between Begin and its end it would let pages be written over that Back brings back.
		r.s.Settle()
	case kind == 2 && r.m.saved == nil:
		r.grow(next.below(9))
	case kind == 3 && r.m.saved == nil:
		r.reload()
	default:
		c := next.call(append([]int{0}, r.trees...), len(r.s.Roster().List))
		if next.below(6) == 0 {
			next.cut(r.world, func() { r.wantLike(r.m, c) })
		} else {
			r.wantLike(r.m, c)
		}
	}
}

// TestP13Long lets catalogs go through many calls, with devices that are nearly full, are left, or lose their power, and holds all that they tell against the chapter's words.
func TestP13Long(t *testing.T) {
	for i := range 80 {
		next := numbers(i)
		sizes := []int{12 + next.below(50), 10 + next.below(50), 10 + next.below(20)}[:1+i%3]
		r := &run{world: made(t, sizes...), m: newModel()}
		r.grow(1)
		for range 300 {
			r.step(&next)
			r.wantTold(r.m, r.trees...)
		}
	}
}
