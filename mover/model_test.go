package mover_test

import (
	"bytes"
	"fmt"
	"slices"
	"testing"

	"portage/api"
	"portage/mover"
	"portage/plan"
	"portage/space"
)

// twins are two worlds to which the same is done. One of them leaves devices, and is told of all that is done to it; the other one has no mover.
type twins struct {
	*world
	other *world
	// steps and writes are those since the mover was made, blocks what was on its device then.
	steps, writes, blocks int
}

// twinned are two worlds of devices of so many sectors.
func twinned(t *testing.T, sizes ...int) *twins {
	t.Helper()
	return &twins{world: made(t, sizes...), other: made(t, sizes...)}
}

// both does something to both, which must answer alike, and tells whether it was done.
func (p *twins) both(what string, call func(w *world) error) bool {
	p.Helper()
	err := call(p.world)
	wantError(p.T, what, err, call(p.other))
	return err == nil
}

// changes does something to both that may unmap something.
func (p *twins) changes(what string, call func(w *world) error) {
	p.Helper()
	if p.both(what, call) {
		p.prune()
	}
}

// prune tells the mover that something was unmapped.
func (p *twins) prune() {
	p.Helper()
	if p.v != nil {
		p.v.Prune()
		p.wantOwn()
	}
}

// addrs are where blocks of a volume are.
func (p *twins) addrs(id, block, count int) []int {
	var list []int
	for i := range count {
		list = append(list, p.m.Map(id, block+i))
	}
	return list
}

// write writes blocks, and tells the mover of those that are where they were.
func (p *twins) write(id, block int, list ...int) {
	p.Helper()
	was := p.addrs(id, block, len(list))
	if !p.both("Write", func(w *world) error { return w.m.Write(id, block, of(list...)) }) || p.v == nil {
		return
	}
	p.writes++
	for i, now := range p.addrs(id, block, len(list)) {
		if now == was[i] {
			must(p.T, "Written", p.v.Written(now, of(list[i])))
		}
	}
	p.prune()
}

// alike demands that both have the same volumes with the same bytes.
func (p *twins) alike() {
	p.Helper()
	list := p.m.List()
	if other := p.other.m.List(); !slices.Equal(list, other) {
		p.Fatalf("the volumes are %v, not %v", list, other)
	}
	for _, info := range list {
		for block := 0; block < info.Size; block += api.MaxRun {
			count := min(api.MaxRun, info.Size-block)
			got, err := p.m.Read(info.Id, block, count)
			must(p.T, "Read", err)
			want, err := p.other.m.Read(info.Id, block, count)
			must(p.T, "Read", err)
			if !bytes.Equal(got, want) {
				p.Fatalf("the blocks of %d from %d on are not alike", info.Id, block)
			}
		}
	}
}

// leave lets a device be left, by a mover that is new.
func (p *twins) leave(device int) {
	p.Helper()
	p.world.leave(device)
	p.blocks, _ = p.v.Left()
	p.steps, p.writes = 0, 0
}

// goOn does one step, and demands that there are no more of them than the bound.
func (p *twins) goOn() int {
	p.Helper()
	did, err := p.v.Step()
	must(p.T, "Step", err)
	p.steps++
	p.within(did)
	return did
}

// within demands that the device is left within the bound.
func (p *twins) within(did int) {
	p.Helper()
	bound, err := plan.Bound(p.blocks, 0, p.writes)
	must(p.T, "Bound", err)
	if p.steps > bound || p.steps == bound && did != mover.Empty {
		p.Fatalf("%d steps with %d blocks and %d writes", p.steps, p.blocks, p.writes)
	}
}

// wantNothing demands that nothing is on the device, whatever is laid over it.
func (p *twins) wantNothing() {
	p.Helper()
	device := p.v.Device()
	p.wantLeft(0, 0)
	p.wantRegion()
	if taken := p.m.Space().On(device); len(taken) != 0 {
		p.Fatalf("%v are taken on the device", taken)
	}
	must(p.T, "Fill", p.b.Fill(device, []byte("what nobody has")))
	p.alike()
	p.wantOwn()
}

// event is something that may come between two steps.
type event struct {
	name string
	do   func(p *twins)
}

// events are those that touch what the scene has: blocks that are shared, that were and are fenced, that have one owner, and that are not mapped.
func events() []event {
	call := func(name string, change func(w *world) error) event {
		return event{name, func(p *twins) { p.Helper(); p.changes(name, change) }}
	}
	write := func(id, block int, list ...int) event {
		return event{fmt.Sprint("Write ", id, block), func(p *twins) { p.Helper(); p.write(id, block, list...) }}
	}
	var list []event
	for block := range 8 {
		list = append(list, write(1, block, 100+block))
	}
	return append(list,
		write(1, 0, span(120, 8)...),
		write(2, 1, 130, 131),
		write(3, 0, 140, 141, 142),
		write(9, 0, 1),
		call("Discard one", func(w *world) error { return w.m.Discard(1, 2, 1) }),
		call("Discard all", func(w *world) error { return w.m.Discard(1, 0, 12) }),
		call("Discard shared", func(w *world) error { return w.m.Discard(2, 0, 12) }),
		call("Resize", func(w *world) error { return w.m.Resize(1, 3) }),
		call("Snapshot", func(w *world) error { return w.m.Snapshot(5, 1) }),
		call("Delete", func(w *world) error { return w.m.Delete(1) }),
		call("Delete shared", func(w *world) error { return w.m.Delete(2) }),
		call("Create", func(w *world) error { return w.m.Create(9, 4) }),
		event{"Save", func(p *twins) { _, err := p.m.Save(); must(p.T, "Save", err) }},
		event{"Settle", func(p *twins) { p.m.Settle() }},
	)
}

// scene are twins, with volumes that share something, of which blocks and pages are on the device that is left.
func scene(t *testing.T) *twins {
	t.Helper()
	p := twinned(t, 40, 32, 30)
	p.both("Create", func(w *world) error { return w.m.Create(1, 12) })
	p.write(1, 0, span(1, 6)...)
	p.both("Snapshot", func(w *world) error { return w.m.Snapshot(2, 1) })
	p.write(1, 1, 11, 12)
	p.both("Create", func(w *world) error { return w.m.Create(3, 5) })
	p.write(3, 0, 31, 32)
	p.both("Discard", func(w *world) error { return w.m.Discard(2, 4, 1) })
	p.leave(0)
	return p
}

// through does the steps till the device is left, and ahead of the step with a number what comes then. It tells how many steps there were.
func through(p *twins, come map[int][]event) int {
	p.Helper()
	for did, at := 0, 0; ; at++ {
		for _, e := range come[at] {
			e.do(p)
			p.alike()
		}
		if did == mover.Empty {
			p.wantNothing()
			return at
		}
		did = p.goOn()
		p.alike()
	}
}

// TestP18_5One has each event ahead of each step, and twice.
func TestP18_5One(t *testing.T) {
	p := scene(t)
	if data, pages := p.v.Left(); data < 6 || data > 8 || pages == 0 {
		t.Fatalf("%d blocks and %d pages are on the device", data, pages)
	}
	last := through(p, nil)
	for _, e := range events() {
		for at := range last + 1 {
			through(scene(t), map[int][]event{at: {e}})
			through(scene(t), map[int][]event{at: {e, e}})
		}
	}
}

// TestP18_5Two has each two events, the first one ahead of each step of the first region and of the next one's beginning, the second one behind up to four steps more.
func TestP18_5Two(t *testing.T) {
	list := events()
	for i, first := range list {
		for j, second := range list {
			for at := range 12 {
				later := at + 1 + (i+j+at)%4
				through(scene(t), map[int][]event{at: {first}, later: {second}})
			}
		}
	}
}

// TestP18_5Always writes all blocks ahead of each step, so that what was read is never good: with each write one step more is enough.
func TestP18_5Always(t *testing.T) {
	p := scene(t)
	for c := range 40 {
		p.write(1, 0, span(200+10*c, 8)...)
		p.alike()
		if p.goOn() == mover.Empty {
			break
		}
		p.alike()
	}
	through(p, nil)
}

// numbers hands out numbers that leap about, the same ones each time.
type numbers uint64

// below is the next one, from 0 to below n.
func (x *numbers) below(n int) int {
	*x = *x*6364136223846793005 + 1442695040888963407
	return int(uint64(*x) >> 33 % uint64(n))
}

// run are twins that go through a long life.
type run struct {
	*twins
	next numbers
	// left counts the devices that were left, refused the steps that were refused.
	left, refused int
}

// change does something to the volumes.
func (r *run) change() {
	r.Helper()
	id, from, block := 1+r.next.below(5), 1+r.next.below(5), r.next.below(42)-1
	switch kind := r.next.below(24); {
	case kind < 2:
		size := 1 + r.next.below(40)
		r.both("Create", func(w *world) error { return w.m.Create(id, size) })
	case kind < 4:
		r.both("Snapshot", func(w *world) error { return w.m.Snapshot(id, from) })
	case kind < 5 && r.next.below(4) == 0:
		r.changes("Delete", func(w *world) error { return w.m.Delete(id) })
	case kind < 6:
		size := 20 + r.next.below(30)
		r.changes("Resize", func(w *world) error { return w.m.Resize(id, size) })
	case kind < 9:
		count := 1 + r.next.below(6)
		r.changes("Discard", func(w *world) error { return w.m.Discard(id, block, count) })
	case kind < 10:
		r.m.Settle()
	case kind < 11:
		_, err := r.m.Save()
		must(r.T, "Save", err)
	case kind < 12:
		r.begun(id, block)
	case kind < 14:
		r.lateWrite(id, block)
	default:
		r.write(id, block, span(r.next.below(60000), 1+r.next.below(4))...)
	}
}

// begun changes something between Begin and its end. What is taken back is not told, and not done to the other one.
func (r *run) begun(id, block int) {
	r.Helper()
	c, isBack := r.next.below(60000), r.next.below(2) == 0
	must(r.T, "Begin", r.m.Begin())
	if isBack {
		r.m.Delete(id)
		r.m.Write(1+id%5, max(block, 0), of(c))
		must(r.T, "Back", r.m.Back())
		return
	}
	r.both("Write", func(w *world) error { return w.m.Write(id, block, of(c, c+1)) })
	r.both("Discard", func(w *world) error { return w.m.Discard(id, block, 1) })
	must(r.T, "Commit", r.m.Commit())
	r.prune()
}

// lateWrite writes a block. If a copy of it must be written, too, the power goes at that; then it is told again, or not.
func (r *run) lateWrite(id, block int) {
	r.Helper()
	c, was, isAgain := r.next.below(60000), r.m.Map(id, block), r.next.below(2) == 0
	if !r.both("Write", func(w *world) error { return w.m.Write(id, block, of(c)) }) {
		return
	}
	r.writes++
	if r.m.Map(id, block) == was {
		region := r.v.Region()
		r.b.Arm(0)
		err := r.v.Written(was, of(c))
		r.keep()
		if r.b.Arm(-1); err != nil {
			r.wantRegion(region...)
			if isAgain {
				must(r.T, "Written", r.v.Written(was, of(c)))
			}
		}
	}
	r.prune()
}

// harm lets a step be refused, if it has a cause to be: then all is as it was.
func (r *run) harm() {
	r.Helper()
	before := r.tells()
	mend := r.keep
	if list := r.v.Region(); len(list) > 0 && r.next.below(2) == 0 {
		device, sector := space.At(list[r.next.below(len(list))].From)
		must(r.T, "Bad", r.b.Bad(device, sector, true))
		mend = func() { must(r.T, "Bad", r.b.Bad(device, sector, false)) }
	} else {
		r.b.Arm(r.next.below(4))
	}
	did, err := r.v.Step()
	mend()
	if err != nil {
		r.refused++
		wantSame(r.T, "a step that is refused", r.tells(), before)
		return
	}
	r.steps++
	r.within(did)
	if did == mover.Empty {
		r.follow()
	}
}

// follow lets the device that is left be detached, and another one come in its place, as long as there may be more; then the next one is left.
func (r *run) follow() {
	r.Helper()
	r.left++
	r.wantNothing()
	device := r.v.Device()
	r.m.Settle()
	r.turn(device, api.Removed)
	must(r.T, "Detach", r.b.Detach(device))
	r.alike()
	if len(r.b.Sizes()) < api.MaxDevices {
		_, err := r.b.Add(150)
		must(r.T, "Add", err)
		list, _, err := r.m.Space().Roster().Add(150)
		must(r.T, "Add", err)
		must(r.T, "Turn", r.m.Turn(list))
	}
	if actives := r.m.Space().Roster().Actives(); len(actives) > 2 {
		r.leave(actives[0])
		return
	}
	r.v = nil
}

// cancel lets the device be used again, and another one be left.
func (r *run) cancel() {
	r.Helper()
	device := r.v.Device()
	r.v.Cancel()
	r.wantOwn()
	r.turn(device, api.Active)
	actives := r.m.Space().Roster().Actives()
	r.leave(actives[r.next.below(len(actives))])
}

// TestP18_5Long goes through long lives, with devices that are left one after the other.
func TestP18_5Long(t *testing.T) {
	left, refused := 0, 0
	for seed := range 20 {
		r := &run{twins: twinned(t, 150, 150, 150), next: numbers(seed)}
		for id := 1; id <= 3; id++ {
			r.both("Create", func(w *world) error { return w.m.Create(id, 40) })
			for block := 0; block < 40; block += 8 {
				r.write(id, block, span(1000*id+block, 8)...)
			}
		}
		r.leave(0)
		for r.v != nil {
			switch kind := r.next.below(40); {
			case kind < 12:
				r.change()
			case kind < 16:
				r.harm()
			case kind < 17 && r.next.below(8) == 0:
				r.cancel()
			default:
				if r.goOn() == mover.Empty {
					r.follow()
				}
			}
			r.alike()
		}
		left, refused = left+r.left, refused+r.refused
	}
	if left < 100 || refused < 200 {
		t.Fatalf("%d devices are left, and %d steps are refused", left, refused)
	}
}
