package pool_test

import (
	"bytes"
	"errors"
	"fmt"
	"maps"
	"slices"
	"strings"
	"testing"

	"portage/api"
	"portage/mover"
	"portage/pool"
	"portage/thin"
)

// numbers hands out numbers that leap about, the same ones each time.
type numbers uint64

// below is the next one, from 0 to below n.
func (x *numbers) below(n int) int {
	*x = *x*6364136223846793005 + 1442695040888963407
	return int(uint64(*x) >> 33 % uint64(n))
}

// volume is a volume as layer 14 describes it: of each mapped block the number that it is of.
type volume struct {
	size, origin int
	blocks       map[int]int
}

// model are volumes, by Id.
type model map[int]volume

// clone is another model that is alike.
func (m model) clone() model {
	c := model{}
	for id, v := range m {
		v.blocks = maps.Clone(v.blocks)
		c[id] = v
	}
	return c
}

// list is what is to be told of the volumes.
func (m model) list() []thin.Info {
	var list []thin.Info
	for _, id := range slices.Sorted(maps.Keys(m)) {
		v := m[id]
		list = append(list, thin.Info{Id: id, Size: v.size, Origin: v.origin, Mapped: len(v.blocks)})
	}
	return list
}

// has tells what is wrong with a run of blocks.
func (m model) has(id, block, count int) error {
	switch v, has := m[id]; {
	case !has:
		return api.ErrVolume
	case count < 1 || block < 0 || block > v.size-count:
		return api.ErrBlocks
	}
	return nil
}

// place tells what is wrong with one volume more.
func (m model) place(id int) error {
	switch _, has := m[id]; {
	case has:
		return api.ErrExists
	case len(m) == api.MaxVolumes:
		return api.ErrMany
	}
	return nil
}

// call is a call on a pool, with what layer 14's volumes make of it.
type call struct {
	name string
	do   func(p *pool.Pool) error
	on   func(m model) error
}

func creates(id, size int) call {
	return call{fmt.Sprintf("Create(%d, %d)", id, size), func(p *pool.Pool) error { return p.Create(id, size) }, func(m model) error {
		switch {
		case id < 1 || id > 1<<20:
			return api.ErrVolume
		case size < 1 || size > api.MaxBlocks:
			return api.ErrBlocks
		}
		if err := m.place(id); err != nil {
			return err
		}
		m[id] = volume{size: size, blocks: map[int]int{}}
		return nil
	}}
}

func snapshots(id, from int) call {
	return call{fmt.Sprintf("Snapshot(%d, %d)", id, from), func(p *pool.Pool) error { return p.Snapshot(id, from) }, func(m model) error {
		v, has := m[from]
		if id < 1 || id > 1<<20 || !has {
			return api.ErrVolume
		}
		if err := m.place(id); err != nil {
			return err
		}
		m[id] = volume{size: v.size, origin: from, blocks: maps.Clone(v.blocks)}
		return nil
	}}
}

func deletes(id int) call {
	return call{fmt.Sprintf("Delete(%d)", id), func(p *pool.Pool) error { return p.Delete(id) }, func(m model) error {
		if _, has := m[id]; !has {
			return api.ErrVolume
		}
		delete(m, id)
		return nil
	}}
}

func resizes(id, size int) call {
	return call{fmt.Sprintf("Resize(%d, %d)", id, size), func(p *pool.Pool) error { return p.Resize(id, size) }, func(m model) error {
		v, has := m[id]
		switch {
		case !has:
			return api.ErrVolume
		case size < 1 || size > api.MaxBlocks:
			return api.ErrBlocks
		}
		v.size = size
		maps.DeleteFunc(v.blocks, func(block, _ int) bool { return block >= size })
		m[id] = v
		return nil
	}}
}

func writes(id, block int, list ...int) call {
	return call{fmt.Sprintf("Write(%d, %d, %v)", id, block, list), func(p *pool.Pool) error { return p.Write(id, block, of(list...)) }, func(m model) error {
		if _, has := m[id]; has && (len(list) < 1 || len(list) > api.MaxRun) {
			return api.ErrLength
		}
		if err := m.has(id, block, len(list)); err != nil {
			return err
		}
		for i, c := range list {
			m[id].blocks[block+i] = c
		}
		return nil
	}}
}

func discards(id, block, count int) call {
	return call{fmt.Sprintf("Discard(%d, %d, %d)", id, block, count), func(p *pool.Pool) error { return p.Discard(id, block, count) }, func(m model) error {
		if err := m.has(id, block, count); err != nil {
			return err
		}
		maps.DeleteFunc(m[id].blocks, func(at, _ int) bool { return at >= block && at < block+count })
		return nil
	}}
}

// aside is a call that changes no volume.
func aside(name string, do func(p *pool.Pool) error) call {
	return call{name, do, func(model) error { return nil }}
}

func flushes() call { return aside("Flush", (*pool.Pool).Flush) }

func adds(device int) call {
	return aside(fmt.Sprintf("Add(%d)", device), func(p *pool.Pool) error { return p.Add(device) })
}

func grows(device int) call {
	return aside(fmt.Sprintf("Grow(%d)", device), func(p *pool.Pool) error { return p.Grow(device) })
}

func evacuates(device int) call {
	return aside(fmt.Sprintf("Evacuate(%d)", device), func(p *pool.Pool) error { return p.Evacuate(device) })
}

func cancels() call { return aside("Cancel", (*pool.Pool).Cancel) }

func moves() call {
	return aside("Move", func(p *pool.Pool) error {
		_, err := p.Move()
		return err
	})
}

// life is a pool, with what its volumes must be.
type life struct {
	*world
	now model
	// durable is what was committed last, as the generation gen, and since has what was written to each block from then on.
	durable model
	gen     int
	since   map[[2]int][]int
	// isTight says that calls may be refused for want of room.
	isTight bool
}

// lives is a new pool.
func lives(t *testing.T, sizes ...int) *life {
	t.Helper()
	l := &life{world: made(t, sizes...), now: model{}}
	l.settle()
	return l
}

// settle keeps in mind what is durable.
func (l *life) settle() {
	l.durable, l.gen, l.since = l.now.clone(), l.p.Info().Gen, map[[2]int][]int{}
}

// run makes calls, none of which may be refused but as layer 14's volumes refuse it.
func (l *life) run(list ...call) {
	l.Helper()
	for _, c := range list {
		next := l.now.clone()
		want := c.on(next)
		wantError(l.T, c.name, c.do(l.p), want)
		if want == nil {
			l.note(next)
		}
	}
}

// note goes over to what the volumes are behind a call.
func (l *life) note(next model) {
	for id, v := range next {
		for block, c := range v.blocks {
			if was, has := l.now[id].blocks[block]; !has || was != c {
				l.since[[2]int{id, block}] = append(l.since[[2]int{id, block}], c)
			}
		}
	}
	l.now = next
	if l.p.Info().Gen != l.gen {
		l.settle()
	}
}

// isLittle tells whether there is so little room that a call of this name may be refused for that. A call on volumes of these tests writes four blocks at most, and fewer than ten pages.
func (w *world) isLittle(name string) bool {
	i := w.p.Info()
	switch {
	case name == "Move":
		// All trees may be written anew, and a page may split.
		return i.Free < 2*i.Pages+api.Region
	case strings.HasPrefix(name, "Evacuate"):
		// Nothing is free on the device that is left.
		most := 0
		for device, e := range i.Roster.List {
			if e.State == api.Active {
				most = max(most, e.Size-api.Slots-w.p.Manager().Space().Used(device))
			}
		}
		return i.Free-most < 10
	}
	return i.Free < 10
}

// mayRun makes a call that may be refused for want of room, and if it is, changes nothing. It tells whether it was refused for that.
func (l *life) mayRun(c call) bool {
	l.Helper()
	before := l.tells()
	next := l.now.clone()
	want := c.on(next)
	err := c.do(l.p)
	if want == nil && (errors.Is(err, api.ErrFull) || errors.Is(err, api.ErrSpace)) {
		wantSame(l.T, c.name, l.tells(), before)
		if !l.isLittle(c.name) {
			l.Fatalf("%s: %v, with %+v", c.name, err, before.Info)
		}
		return true
	}
	wantError(l.T, c.name, err, want)
	if want != nil {
		wantSame(l.T, c.name, l.tells(), before)
	} else {
		l.note(next)
	}
	return false
}

// same demands that the volumes are what they must be, that Info tells the truth, and that no superblock counts anywhere that has a device as a member which is Removed.
func (l *life) same() {
	l.Helper()
	l.wantVolumes(l.now)
	l.wantOwn()
	r := l.p.Info().Roster
	for _, s := range everywhere(l.b) {
		for _, device := range s.Roster.Members() {
			if r.State(device) == api.Removed {
				l.Fatalf("the device %d is Removed, and %v counts", device, s)
			}
		}
	}
}

// wantVolumes demands that the volumes are these.
func (l *life) wantVolumes(m model) {
	l.Helper()
	if got, want := l.p.Info().Volumes, m.list(); !slices.Equal(got, want) {
		l.Fatalf("the volumes are %v, not %v", got, want)
	}
	for id, v := range m {
		for at := 0; at < v.size; at += api.MaxRun {
			count := min(api.MaxRun, v.size-at)
			var want []byte
			for i := range count {
				want = append(want, of(v.blocks[at+i])...)
			}
			data, err := l.p.Read(id, at, count)
			must(l.T, "Read", err)
			if !bytes.Equal(data, want) {
				l.Fatalf("the blocks of %d from %d on are not what they must be", id, at)
			}
		}
	}
}

// wantOwn demands that what Info tells of the room is right: what is taken are Data, Pages and Copies, and what else is used was given back.
func (w *world) wantOwn() {
	w.Helper()
	i, m := w.p.Info(), w.p.Manager()
	if i.Data != len(m.Data()) || i.Pages != len(m.Pages()) || !i.Roster.Same(m.Space().Roster()) || i.Room != i.Roster.Room() {
		w.Fatalf("Info: %+v", i)
	}
	taken, open := 0, 0
	for device, e := range i.Roster.List {
		taken += len(m.Space().On(device))
		if e.State == api.Active {
			open += e.Size - api.Slots - m.Space().Used(device)
		}
		if e.State == api.Removed && m.Space().Used(device) > 0 {
			w.Fatalf("the device %d is Removed, and %d are in use there", device, m.Space().Used(device))
		}
	}
	if taken != i.Data+i.Pages+i.Copies || open != i.Free {
		w.Fatalf("%d are taken and %d free, not %+v", taken, open, i)
	}
}

// given is how many addresses were given back, and are not settled.
func (w *world) given() int {
	i, m := w.p.Info(), w.p.Manager()
	count := 0
	for device := range i.Roster.List {
		count += m.Space().Used(device) - len(m.Space().On(device))
	}
	return count
}

// change is a call on volumes that leaps about.
func (l *life) change(next *numbers) call {
	id, from, at := 1+next.below(5), 1+next.below(5), next.below(42)-1
	switch kind := next.below(30); {
	case kind < 2:
		return creates(id, 1+next.below(40))
	case kind < 5:
		return snapshots(id, from)
	case kind < 6:
		return deletes(id)
	case kind < 7:
		return resizes(id, 10+next.below(40))
	case kind < 11:
		return discards(id, at, 1+next.below(9))
	case kind < 13:
		return flushes()
	}
	return writes(id, at, span(1+next.below(60000), 1+next.below(4))...)
}

// device does something to the devices.
func (l *life) device(next *numbers) {
	l.Helper()
	i := l.p.Info()
	actives := i.Roster.Actives()
	switch kind := next.below(12); {
	case i.Leaving >= 0 && kind == 0:
		l.run(cancels())
	case i.Leaving >= 0:
		l.run(moves())
	case kind < 3 && len(l.b.Sizes()) < api.MaxDevices:
		device, err := l.b.Add(150 + next.below(50))
		must(l.T, "Add", err)
		l.run(adds(device))
	case kind < 5:
		device := actives[next.below(len(actives))]
		must(l.T, "Grow", l.b.Grow(device, 1+next.below(9)))
		l.run(grows(device))
	case len(actives) > 2:
		l.run(evacuates(actives[next.below(len(actives))]))
	}
}

// TestP19_6Long has volumes with snapshots that are changed while devices are added, grow and are left. A device that is left is filled or detached.
func TestP19_6Long(t *testing.T) {
	removed := 0
	for seed := range 12 {
		l := lives(t, 200, 180, 190)
		next := numbers(seed)
		l.run(creates(1, 40), creates(2, 30), snapshots(3, 1))
		for turn := range 700 {
			l.run(l.change(&next))
			for range next.below(4) {
				l.device(&next)
			}
			if turn%5 == 0 {
				l.same()
			}
			for device, e := range l.p.Info().Roster.List {
				if e.State == api.Removed && l.b.Sizes()[device] > 0 && next.below(3) == 0 {
					must(t, "Fill", l.b.Fill(device, []byte{byte(turn)}))
					must(t, "Detach", l.b.Detach(device))
					removed++
				}
			}
		}
		l.same()
		l.b.Crash()
		l.open()
		l.recover(l.durable)
	}
	if removed < 12 {
		t.Fatalf("%d devices were left", removed)
	}
}

// TestP19_6Bound leaves devices within layer 17's bound, while blocks are written.
func TestP19_6Bound(t *testing.T) {
	for writing := range 3 {
		l := lives(t, 120, 120, 120)
		l.run(creates(1, 60))
		for at := 0; at < 60; at += 4 {
			l.run(writes(1, at, span(at+1, 4)...))
		}
		l.run(snapshots(2, 1), writes(1, 3, 91, 92, 93))
		l.run(evacuates(1))
		data, written, steps := 0, 0, 0
		for _, addr := range l.p.Manager().Data() {
			if addr/api.MaxSectors == 1 {
				data++
			}
		}
		for did := 0; did != mover.Empty; steps++ {
			if writing > 0 && steps < 60 && steps%(3-writing) == 0 {
				l.run(writes(1+steps%2, steps, 100+steps))
				written++
			}
			var err error
			did, err = l.p.Move()
			must(t, "Move", err)
			if steps > 4*data+8*written+8 {
				t.Fatalf("%d steps for %d blocks and %d writes", steps, data, written)
			}
		}
		l.same()
	}
}

// TestP19_6Tight goes through lives on devices that are nearly full: what is refused changes nothing, and is refused only where there is little room.
func TestP19_6Tight(t *testing.T) {
	refused := map[string]int{}
	for seed := range 40 {
		l := lives(t, 20+seed%30, 22+seed%17, 24+seed%13)
		next := numbers(seed)
		for range 300 {
			c := l.tight(&next)
			if l.mayRun(c) {
				word, _, _ := strings.Cut(c.name, "(")
				refused[word]++
			}
		}
		l.same()
		l.b.Crash()
		l.open()
		l.recover(nil)
	}
	for _, word := range []string{"Create", "Snapshot", "Delete", "Resize", "Write", "Discard", "Flush", "Evacuate", "Move"} {
		if refused[word] == 0 {
			t.Fatalf("%s always had room: %v", word, refused)
		}
	}
}

// tight is a call on volumes or devices that leaps about.
func (l *life) tight(next *numbers) call {
	i := l.p.Info()
	actives := i.Roster.Actives()
	switch kind := next.below(20); {
	case kind < 4 && i.Leaving >= 0:
		return moves()
	case kind < 5 && i.Leaving >= 0:
		return cancels()
	case kind < 2 && len(actives) > 1:
		return evacuates(actives[next.below(len(actives))])
	}
	return l.change(next)
}
