package thin_test

import (
	"bytes"
	"errors"
	"maps"
	"slices"
	"testing"

	"portage/api"
	"portage/refs"
	"portage/space"
	"portage/thin"
)

// cell is what is at one address, whatever that is: blocks that share it have the same cell.
type cell struct {
	data   int
	fenced bool
}

// volume is a volume of the model.
type volume struct {
	size, origin int
	blocks       map[int]*cell
}

// model is a manager as the chapter's words put it.
type model struct {
	volumes map[int]*volume
	begun   *model
}

func newModel() *model { return &model{volumes: map[int]*volume{}} }

// clone is a model that is alike, with cells of its own, shared as they were.
func (m *model) clone() *model {
	cells := map[*cell]*cell{nil: nil}
	c := newModel()
	for id, v := range m.volumes {
		next := &volume{v.size, v.origin, map[int]*cell{}}
		for block, x := range v.blocks {
			if cells[x] == nil {
				cells[x] = &cell{x.data, x.fenced}
			}
			next.blocks[block] = cells[x]
		}
		c.volumes[id] = next
	}
	return c
}

// owners are the blocks that have a cell.
func (m *model) owners(x *cell) []refs.Owner {
	var list []refs.Owner
	for _, id := range slices.Sorted(maps.Keys(m.volumes)) {
		for _, block := range slices.Sorted(maps.Keys(m.volumes[id].blocks)) {
			if m.volumes[id].blocks[block] == x {
				list = append(list, refs.Owner{Vol: id, Block: block})
			}
		}
	}
	return list
}

// let gives a block another cell, or none. The one that it had is fenced, if somebody has it still.
func (m *model) let(id, block int, x *cell) {
	v := m.volumes[id]
	if was := v.blocks[block]; was != nil {
		was.fenced = true
	}
	if v.blocks[block] = x; x == nil {
		delete(v.blocks, block)
	}
}

// stays tells whether a block may be written where it is.
func (m *model) stays(id, block int) bool {
	x := m.volumes[id].blocks[block]
	return x != nil && !x.fenced && m.begun == nil && len(m.owners(x)) == 1
}

// hasNot tells the first error of a call on blocks.
func (m *model) hasNot(id, block, count, most int) error {
	v := m.volumes[id]
	switch {
	case v == nil:
		return api.ErrVolume
	case count < 1 || count > most || block < 0 || block+count > v.size:
		return api.ErrBlocks
	}
	return nil
}

// create, snapshot, remove and resize are the chapter's sentences about Create, Snapshot, Delete and Resize.
func (m *model) create(id, size int) error {
	switch {
	case id < 1 || id > maxId:
		return api.ErrVolume
	case size < 1 || size > api.MaxBlocks:
		return api.ErrBlocks
	case m.volumes[id] != nil:
		return api.ErrExists
	case len(m.volumes) == api.MaxVolumes:
		return api.ErrMany
	}
	m.volumes[id] = &volume{size: size, blocks: map[int]*cell{}}
	return nil
}

func (m *model) snapshot(id, from int) error {
	v := m.volumes[from]
	switch {
	case id < 1 || id > maxId || v == nil:
		return api.ErrVolume
	case m.volumes[id] != nil:
		return api.ErrExists
	case len(m.volumes) == api.MaxVolumes:
		return api.ErrMany
	}
	m.volumes[id] = &volume{v.size, from, maps.Clone(v.blocks)}
	return nil
}

func (m *model) remove(id int) error {
	v := m.volumes[id]
	if v == nil {
		return api.ErrVolume
	}
	m.discard(id, 0, v.size)
	delete(m.volumes, id)
	return nil
}

func (m *model) resize(id, size int) error {
	v := m.volumes[id]
	switch {
	case v == nil:
		return api.ErrVolume
	case size < 1 || size > api.MaxBlocks:
		return api.ErrBlocks
	}
	m.discard(id, size, max(v.size-size, 0))
	v.size = size
	return nil
}

// discard lets blocks be mapped no more.
func (m *model) discard(id, block, count int) {
	for _, at := range slices.Sorted(maps.Keys(m.volumes[id].blocks)) {
		if at >= block && at < block+count {
			m.let(id, at, nil)
		}
	}
}

// settle lets nothing be fenced.
func (m *model) settle() {
	for _, v := range m.volumes {
		for _, x := range v.blocks {
			x.fenced = false
		}
	}
}

// run is a manager that goes through many calls, with the model of it.
type run struct {
	*world
	model *model
	// before is what was told at Begin.
	before told
	// refused counts calls that had no room, or no power.
	refused, done int
}

// wantTold demands that a manager tells all as the model does.
func (r *run) wantTold() {
	r.Helper()
	var infos []thin.Info
	at := map[*cell]int{}
	for _, id := range slices.Sorted(maps.Keys(r.model.volumes)) {
		v := r.model.volumes[id]
		infos = append(infos, thin.Info{Id: id, Size: v.size, Origin: v.origin, Mapped: len(v.blocks)})
		for block := range v.size {
			addr, x := r.m.Map(id, block), v.blocks[block]
			if (addr == 0) != (x == nil) {
				r.Fatalf("the block %d of %d is at %d", block, id, addr)
			}
			if x == nil {
				continue
			}
			if was, is := at[x]; is && was != addr {
				r.Fatalf("the block %d of %d is at %d, not at %d", block, id, addr, was)
			}
			at[x] = addr
			data, err := r.m.Read(id, block, 1)
			if err != nil || !bytes.Equal(data, of(x.data)) {
				r.Fatalf("the block %d of %d is not of %d: %v", block, id, x.data, err)
			}
		}
	}
	r.wantList(infos...)
	addrs := slices.Sorted(maps.Values(at))
	if got := r.m.Data(); !slices.Equal(got, addrs) {
		r.Fatalf("Data: %v, not %v", got, addrs)
	}
	for x, addr := range at {
		if got := r.m.Owners(addr); !slices.Equal(got, r.model.owners(x)) {
			r.Fatalf("Owners(%d): %v, not %v", addr, got, r.model.owners(x))
		}
	}
	r.wantOwn()
}

// does demands that a call which may have no room, or no power, is done wholly, or changes nothing, and tells whether it is done.
func (r *run) does(what string, want error, call func() error) bool {
	r.Helper()
	before := r.tells()
	err := call()
	if want != nil || err == nil {
		wantError(r.T, what, err, want)
		r.done++
		return want == nil
	}
	if !errors.Is(err, api.ErrFull) && !errors.Is(err, api.ErrDown) {
		r.Fatalf("%s: %v", what, err)
	}
	r.refused++
	r.keep()
	wantSame(r.T, what, r.tells(), before)
	return false
}

// write writes blocks. If the power goes, those that stay where they are have what they had, or what they should get.
func (r *run) write(id, block, c, count int, powered bool) {
	r.Helper()
	want := r.model.hasNot(id, block, count, api.MaxRun)
	if r.model.volumes[id] != nil && (count < 1 || count > api.MaxRun) {
		want = api.ErrLength
	}
	call := func() error { return r.m.Write(id, block, of(span(c, count)...)) }
	var stay []int
	was := map[int]int{}
	if want == nil {
		for i := block; i < block+count; i++ {
			was[i] = r.m.Map(id, i)
			if r.model.stays(id, i) {
				stay = append(stay, i)
			}
		}
	}
	if !powered && len(stay) > 0 {
		return
	}
	free := slices.Concat(r.tells().Free...)
	if !r.does("Write", want, call) {
		return
	}
	for i := range count {
		at := block + i
		now := r.m.Map(id, at)
		if slices.Contains(stay, at) {
			if now != was[at] {
				r.Fatalf("the block %d of %d was at %d, and is at %d", at, id, was[at], now)
			}
			r.model.volumes[id].blocks[at].data = c + i
			continue
		}
		if !slices.Contains(free, now) {
			r.Fatalf("the block %d of %d is at %d, which was not free", at, id, now)
		}
		r.model.let(id, at, &cell{data: c + i})
	}
}

// swap puts some blocks of a device elsewhere, if there is room for copies.
func (r *run) swap(next *numbers, powered bool) {
	r.Helper()
	device := next.below(3) - 1
	var from, to []int
	for _, addr := range r.m.Data() {
		if len(from) == next.below(6) {
			break
		}
		if next.below(2) == 0 {
			continue
		}
		taken, err := r.m.Space().Take()
		if err != nil {
			break
		}
		d, s := space.At(addr)
		data, err := r.b.Read(d, s)
		must(r.T, "Read", err)
		d, s = space.At(taken)
		must(r.T, "Write", r.b.Write(d, s, data))
		from, to = append(from, addr), append(to, taken)
	}
	if !powered {
		r.b.Arm(next.below(20))
	}
	if !r.does("Swap", nil, func() error { return r.m.Swap(device, from, to) }) {
		for _, addr := range to {
			must(r.T, "Give", r.m.Space().Give(addr))
		}
		return
	}
	for i, addr := range to {
		for _, o := range r.m.Owners(addr) {
			r.model.volumes[o.Vol].blocks[o.Block].fenced = false
		}
		if len(r.m.Owners(from[i])) != 0 || r.m.Space().Taken(from[i]) {
			r.Fatalf("%d is not given back", from[i])
		}
	}
	actives := r.m.Space().Roster().Actives()
	if elsewhere := len(actives) > 1 || len(actives) == 1 && actives[0] != device; elsewhere && len(on(device, r.m.Pages())) != 0 {
		r.Fatalf("pages on the device %d: %v", device, r.m.Pages())
	}
}

// end ends what was begun, or begins.
func (r *run) end(name string) {
	r.Helper()
	call := map[string]func() error{"Begin": r.m.Begin, "Commit": r.m.Commit, "Back": r.m.Back}[name]
	if (r.model.begun != nil) == (name == "Begin") {
		r.refuses(name, api.ErrBusy, call)
		return
	}
	if name == "Begin" {
		r.before = r.tells()
		r.model.begun = r.model.clone()
	}
	must(r.T, name, call())
	switch name {
	case "Commit":
		r.model.begun = nil
	case "Back":
		r.model = r.model.begun
		wantSame(r.T, "Back", r.tells(), r.before)
	}
}

// turn lets devices be left, be used again, or grow.
func (r *run) turn(next *numbers) {
	r.Helper()
	list := r.m.Space().Roster()
	device := next.below(len(list.List))
	if e := &list.List[device]; next.below(4) > 0 {
		e.State = api.Active + api.Draining - e.State
	} else if e.Size += 3; e.Size < 100 && r.b.Sizes()[device] < e.Size {
		must(r.T, "Grow", r.b.Grow(device, 3))
	}
	must(r.T, "Turn", r.m.Turn(list))
}

// reload goes over to the manager that is loaded from what was saved and settled.
func (r *run) reload() {
	r.Helper()
	if r.model.begun != nil || !r.does("Save", nil, func() error { _, err := r.m.Save(); return err }) {
		return
	}
	r.m.Settle()
	r.model.settle()
	r.wantLoaded()
	r.world = r.another(r.m.Root())
}

// step does something, most often with a power that stays.
func (r *run) step(next *numbers) {
	r.Helper()
	id, other, block := next.below(8), next.below(8), next.below(34)-1
	powered := next.below(8) > 0
	if !powered {
		r.b.Arm(next.below(12))
		defer r.b.Arm(-1)
	}
	switch kind := next.below(40); {
	case kind < 3:
		size := next.below(40)
		r.does("Create", r.model.create(id, size), func() error { return r.m.Create(id, size) })
	case kind < 6:
		r.does("Snapshot", r.model.snapshot(id, other), func() error { return r.m.Snapshot(id, other) })
	case kind < 8:
		r.does("Delete", r.model.remove(id), func() error { return r.m.Delete(id) })
	case kind < 10:
		size := next.below(40)
		want := r.model.clone().resize(id, size)
		if r.does("Resize", want, func() error { return r.m.Resize(id, size) }) {
			r.model.resize(id, size)
		}
	case kind < 14:
		count := next.below(24)
		want := r.model.hasNot(id, block, count, maxId)
		if r.does("Discard", want, func() error { return r.m.Discard(id, block, count) }) {
			r.model.discard(id, block, count)
		}
	case kind < 16:
		r.does("Save", nil, func() error { _, err := r.m.Save(); return err })
	case kind < 18:
		r.m.Settle()
		r.model.settle()
	case kind < 19:
		r.b.Arm(-1)
		r.turn(next)
	case kind < 20:
		r.b.Arm(-1)
		r.reload()
	case kind < 22:
		r.b.Arm(-1)
		r.swap(next, powered)
		r.b.Arm(-1)
	case kind < 26:
		// What must be written by Back needs power.
		r.b.Arm(-1)
		r.end([]string{"Begin", "Begin", "Commit", "Back"}[kind-22])
	default:
		r.write(id, block, 1+next.below(60000), next.below(10), powered)
	}
}

// TestP14Long lets managers go through many calls, over devices that are nearly full, are left, grow, or lose their power, and holds all that they tell against the chapter's words.
func TestP14Long(t *testing.T) {
	t.Parallel()
	refused, done := 0, 0
	for i := range 100 {
		next := numbers(i)
		sizes := []int{20 + next.below(50), 10 + next.below(50), 10 + next.below(20)}[:1+i%3]
		r := &run{world: made(t, sizes...), model: newModel()}
		for range 250 {
			r.step(&next)
			r.wantTold()
		}
		refused, done = refused+r.refused, done+r.done
		if r.model.begun != nil {
			r.end("Back")
		}
		r.wantTold()
		if r.m.Space().Free() > 20 {
			r.wantEmpty()
		}
	}
	if refused < 600 || done < 10*refused/2 {
		t.Errorf("%d calls are refused, %d are not", refused, done)
	}
}

// short are calls of which sequences are made.
func short() []func(r *run) {
	write := func(id, block, count int) func(r *run) {
		return func(r *run) { r.write(id, block, 5*id+block+1, count, true) }
	}
	end := func(name string) func(r *run) { return func(r *run) { r.end(name) } }
	return []func(r *run){
		write(1, 0, 2), write(1, 1, 1), write(2, 0, 1),
		func(r *run) {
			r.does("Snapshot", r.model.snapshot(2, 1), func() error { return r.m.Snapshot(2, 1) })
		},
		func(r *run) { r.does("Delete", r.model.remove(1), func() error { return r.m.Delete(1) }) },
		func(r *run) { r.does("Create", r.model.create(1, 4), func() error { return r.m.Create(1, 4) }) },
		func(r *run) {
			if r.does("Discard", r.model.hasNot(1, 1, 1, maxId), func() error { return r.m.Discard(1, 1, 1) }) {
				r.model.discard(1, 1, 1)
			}
		},
		func(r *run) { r.does("Save", nil, func() error { _, err := r.m.Save(); return err }) },
		func(r *run) { r.m.Settle(); r.model.settle() },
		end("Begin"), end("Commit"), end("Back"),
	}
}

// TestP14Small lets managers go through all sequences of a few calls, with little room and with much, and holds all that they tell against the chapter's words.
func TestP14Small(t *testing.T) {
	t.Parallel()
	calls := short()
	for size, most := range map[int]int{8: 4, 30: 3} {
		for length, count := 1, len(calls); length <= most; length, count = length+1, count*len(calls) {
			for sequence := range count {
				r := &run{world: made(t, size), model: newModel()}
				r.does("Create", r.model.create(1, 4), func() error { return r.m.Create(1, 4) })
				calls[0](r)
				calls[3](r)
				for range length {
					calls[sequence%len(calls)](r)
					sequence /= len(calls)
				}
				r.wantTold()
			}
		}
	}
}
