package mover_test

import (
	"bytes"
	"slices"
	"testing"

	"portage/api"
	"portage/dirty"
	"portage/mover"
	"portage/refs"
	"portage/space"
)

// plain has one volume of so many blocks, all of them on the device that is left, each with an owner of its own.
func plain(t *testing.T, count int) *world {
	t.Helper()
	w := made(t, 100, 40, 30)
	w.create(1, 30, span(1, count)...)
	w.leave(0)
	if data, _ := w.v.Left(); data != count {
		t.Fatalf("%d blocks are on the device", data)
	}
	return w
}

// owner is the only owner of an address.
func (w *world) owner(addr int) refs.Owner {
	w.Helper()
	list := w.m.Owners(addr)
	if len(list) != 1 {
		w.Fatalf("%v own %d", list, addr)
	}
	return list[0]
}

// writeAt writes the block at an address, where it is.
func (w *world) writeAt(addr, c int) {
	w.Helper()
	o := w.owner(addr)
	must(w.T, "Write", w.m.Write(o.Vol, o.Block, of(c)))
	if w.m.Map(o.Vol, o.Block) != addr {
		w.Fatalf("the block was at %d, and is at %d", addr, w.m.Map(o.Vol, o.Block))
	}
}

// stage is a region with entries in each state, as far as there may be at one time: two that are Copied, one that is Read, one that is Planned.
func stage(t *testing.T) (w *world, copied, read, planned dirty.Entry) {
	t.Helper()
	w = plain(t, 6)
	w.step(mover.Planned, mover.Read, mover.Wrote, mover.Read, mover.Wrote, mover.Read)
	w.wantStates(dirty.Copied, dirty.Copied, dirty.Read, dirty.Planned)
	region := w.v.Region()
	return w, region[1], region[2], region[3]
}

// finish goes on till the device is left, and demands that the blocks of the volume have what is of these numbers.
func (w *world) finish(list ...int) {
	w.Helper()
	w.all(func() { w.want(1, 0, list...) })
	must(w.T, "Fill", w.b.Fill(0, []byte{238}))
	w.want(1, 0, list...)
	w.wantOwn()
}

// TestP18_3WrittenElsewhere tells of writes at addresses that are in no entry: nothing is to be done, whatever is handed in.
func TestP18_3WrittenElsewhere(t *testing.T) {
	w, copied, read, planned := stage(t)
	last := w.m.Map(1, 5)
	others := append(slices.Clone(edges), last, copied.To, read.To, planned.To, copied.From-100, copied.From+4096)
	for _, addr := range w.m.Pages() {
		others = append(others, addr)
	}
	before, done := w.tells(), w.b.Done()
	for _, addr := range others {
		if slices.ContainsFunc(w.v.Region(), func(e dirty.Entry) bool { return e.From == addr }) {
			continue
		}
		for _, data := range [][]byte{nil, {}, {1}, of(77)[1:], of(77), of(77, 78)} {
			must(t, "Written", w.v.Written(addr, data))
		}
	}
	wantSame(t, "Written", w.tells(), before)
	if w.b.Done() != done {
		t.Fatal("Written writes")
	}
	w.writeAt(last, 77)
	must(t, "Written", w.v.Written(last, of(77)))
	w.wantRegion(before.Region...)
	w.finish(1, 2, 3, 4, 5, 77)
}

// TestP18_3WrittenNone tells of writes when no region is being copied.
func TestP18_3WrittenNone(t *testing.T) {
	w := plain(t, 2)
	addr := w.m.Map(1, 0)
	w.writeAt(addr, 77)
	must(t, "Written", w.v.Written(addr, of(77)))
	w.wantRegion()
	w.finish(77, 2)
	must(t, "Written", w.v.Written(w.m.Map(1, 0), of(77)))
	must(t, "Written", w.v.Written(addr, of(99)))
	w.want(1, 0, 77, 2)
}

// TestP18_3WrittenPlanned writes what was not read yet: nothing is to be done.
func TestP18_3WrittenPlanned(t *testing.T) {
	w, _, _, e := stage(t)
	w.writeAt(e.From, 77)
	before, done := w.tells(), w.b.Done()
	must(t, "Written", w.v.Written(e.From, of(77)))
	wantSame(t, "Written", w.tells(), before)
	if w.b.Done() != done {
		t.Fatal("Written writes")
	}
	w.finish(1, 2, 3, 77, 5, 6)
}

// TestP18_3WrittenRead writes what was read, and not written yet: it is read once more, as often as that comes.
func TestP18_3WrittenRead(t *testing.T) {
	w, _, e, _ := stage(t)
	for c := range 3 {
		w.writeAt(e.From, 77+c)
		before, done := w.tells(), w.b.Done()
		must(t, "Written", w.v.Written(e.From, of(77+c)))
		before.Region[2].State = dirty.Planned
		wantSame(t, "Written", w.tells(), before)
		if w.b.Done() != done {
			t.Fatal("Written writes")
		}
		w.step(mover.Read)
		w.wantStates(dirty.Copied, dirty.Copied, dirty.Read, dirty.Planned)
	}
	w.step(mover.Wrote)
	if !bytes.Equal(w.at(e.To), of(79)) {
		t.Fatal("what was read last is not what was written")
	}
	w.finish(1, 2, 79, 4, 5, 6)
}

// TestP18_3WrittenOther writes something else than what was read: that stays good.
func TestP18_3WrittenOther(t *testing.T) {
	w, copied, read, planned := stage(t)
	for _, addr := range []int{copied.From, planned.From, w.m.Map(1, 5)} {
		w.writeAt(addr, 77)
		must(t, "Written", w.v.Written(addr, of(77)))
	}
	w.wantStates(dirty.Copied, dirty.Copied, dirty.Read, dirty.Planned)
	w.step(mover.Wrote)
	if !bytes.Equal(w.at(read.To), of(3)) {
		t.Fatal("the copy is another one")
	}
	w.finish(1, 77, 3, 77, 5, 77)
}

// TestP18_3WrittenCopied writes what was copied: the copy is written, too.
func TestP18_3WrittenCopied(t *testing.T) {
	w, e, _, _ := stage(t)
	for c := range 3 {
		w.writeAt(e.From, 77+c)
		before, done := w.tells(), w.b.Done()
		if bytes.Equal(w.at(e.To), of(77+c)) {
			t.Fatal("the copy is written ahead of Written")
		}
		must(t, "Written", w.v.Written(e.From, of(77+c)))
		wantSame(t, "Written", w.tells(), before)
		if w.b.Done() != done+1 || !bytes.Equal(w.at(e.To), of(77+c)) {
			t.Fatalf("%d writes, and the copy is another one", w.b.Done()-done)
		}
	}
	w.finish(1, 79, 3, 4, 5, 6)
}

// wantFails demands that a copy can't be written, which is told, and changes nothing.
func (w *world) wantFails(e dirty.Entry, data []byte, code api.Code) {
	w.Helper()
	wantError(w.T, "Written", w.v.Written(e.From, data), broken("write", e.To, code))
}

// TestP18_3WrittenFails has a copy that can't be written, and is when the cause is gone.
func TestP18_3WrittenFails(t *testing.T) {
	w, e, _, _ := stage(t)
	w.writeAt(e.From, 77)
	before := w.tells()
	w.b.Arm(0)
	for range 2 {
		w.wantFails(e, of(77), api.ErrDown)
	}
	w.keep()
	wantSame(t, "Written", w.tells(), before)
	must(t, "Written", w.v.Written(e.From, of(77)))
	wantSame(t, "Written", w.tells(), before)
	if !bytes.Equal(w.at(e.To), of(77)) {
		t.Fatal("the copy is another one")
	}
	w.finish(1, 77, 3, 4, 5, 6)
}

// TestP18_3WrittenWrong hands in what is no block.
func TestP18_3WrittenWrong(t *testing.T) {
	w, e, _, _ := stage(t)
	before, done := w.tells(), w.b.Done()
	for _, data := range [][]byte{nil, {}, {1}, of(77)[1:], append(of(77), 1), of(77, 78)} {
		w.wantFails(e, data, api.ErrSize)
	}
	wantSame(t, "Written", w.tells(), before)
	if w.b.Done() != done || !bytes.Equal(w.at(e.To), of(2)) {
		t.Fatal("what is no block is written")
	}
	w.finish(1, 2, 3, 4, 5, 6)
}

// TestP18_3WrittenGone has a copy whose device is detached.
func TestP18_3WrittenGone(t *testing.T) {
	w, e, _, _ := stage(t)
	device, _ := space.At(e.To)
	must(t, "Detach", w.b.Detach(device))
	before := w.v.Region()
	w.wantFails(e, of(2), api.ErrGone)
	w.wantRegion(before...)
}

// TestP18_3Late has copies that missed a write: nobody goes over to what is older, though nobody tells of that write again.
func TestP18_3Late(t *testing.T) {
	late := func() (*world, dirty.Entry) {
		w, e, _, _ := stage(t)
		w.writeAt(e.From, 77)
		w.b.Arm(0)
		w.wantFails(e, of(77), api.ErrDown)
		w.keep()
		return w, e
	}
	w, e := late()
	w.finish(1, 77, 3, 4, 5, 6)

	// It is not copied once more if it is told of again, or goes.
	writes := func(w *world) int {
		w.Helper()
		done := w.b.Done()
		w.step(mover.Swapped)
		return w.b.Done() - done
	}
	w, _, _, _ = stage(t)
	w.step(mover.Wrote, mover.Read, mover.Wrote)
	usual := writes(w)
	w, e = late()
	must(t, "Written", w.v.Written(e.From, of(77)))
	w.step(mover.Wrote, mover.Read, mover.Wrote)
	if n := writes(w); n != usual {
		t.Fatalf("%d writes, not %d", n, usual)
	}
	w.finish(1, 77, 3, 4, 5, 6)

	// A Cancel begins all anew.
	w, _ = late()
	w.v.Cancel()
	w.copied()
	if n := writes(w); n != usual {
		t.Fatalf("%d writes, not %d", n, usual)
	}
	w.finish(1, 77, 3, 4, 5, 6)

	// Copying once more may be refused, too.
	w, e = late()
	w.step(mover.Wrote, mover.Read, mover.Wrote)
	device, sector := space.At(e.From)
	must(t, "Bad", w.b.Bad(device, sector, true))
	w.fails("Swapped", broken("read", e.From, api.ErrRead))
	must(t, "Bad", w.b.Bad(device, sector, false))
	if n := w.without(mover.Swapped, func(place int, err error) bool {
		return place > 0 || err.Error() == broken("write", e.To, api.ErrDown).Error()
	}); n != usual {
		// What was copied once more ahead of a swap that is refused need not be, ahead of the next one.
		t.Fatalf("%d writes, not %d", n, usual)
	}
	w.finish(1, 77, 3, 4, 5, 6)
}

// wantPruned demands that Prune lets just these entries go, whose To are free then.
func (w *world) wantPruned(gone ...dirty.Entry) {
	w.Helper()
	before, done := w.tells(), w.b.Done()
	if n := w.v.Prune(); n != len(gone) {
		w.Fatalf("Prune: %d, not %d", n, len(gone))
	}
	stay := slices.DeleteFunc(before.Region, func(e dirty.Entry) bool { return slices.Contains(gone, e) })
	w.wantRegion(stay...)
	for _, e := range gone {
		if !w.isFree(e.To) {
			w.Fatalf("%d is not free", e.To)
		}
	}
	if w.m.Space().Free() != before.Count+len(gone) || w.b.Done() != done {
		w.Fatalf("%d were free, and %d are", before.Count, w.m.Space().Free())
	}
	w.wantOwn()
	// Nothing is left to be pruned.
	if n := w.v.Prune(); n != 0 {
		w.Fatalf("Prune: %d", n)
	}
}

func TestP18_3Prune(t *testing.T) {
	w := plain(t, 6)
	w.wantPruned()
	w, _, _, _ = stage(t)
	w.wantPruned()
	// Each choice of the four is unmapped.
	for choice := range 1 << api.Region {
		w, _, _, _ := stage(t)
		var gone []dirty.Entry
		want := span(1, 6)
		for i, e := range w.v.Region() {
			if choice&(1<<i) != 0 {
				gone = append(gone, e)
				must(t, "Discard", w.m.Discard(1, w.owner(e.From).Block, 1))
				want[i] = 0
			}
		}
		w.wantPruned(gone...)
		w.finish(want...)
	}
}

// TestP18_3PruneRead lets what was read go: the next one is read, and what is written is its own.
func TestP18_3PruneRead(t *testing.T) {
	w, _, read, planned := stage(t)
	must(t, "Discard", w.m.Discard(1, w.owner(read.From).Block, 1))
	w.wantPruned(read)
	w.step(mover.Read, mover.Wrote)
	if !bytes.Equal(w.at(planned.To), of(4)) {
		t.Fatal("the copy is another one")
	}
	w.finish(1, 2, 0, 4, 5, 6)
}

// TestP18_3PruneShared unmaps a block for one owner after the other: the entry goes with the last one.
func TestP18_3PruneShared(t *testing.T) {
	unmap := map[string]func(w *world, id int) error{
		"Discard": func(w *world, id int) error { return w.m.Discard(id, 0, 4) },
		"Delete":  func(w *world, id int) error { return w.m.Delete(id) },
		"Write":   func(w *world, id int) error { return w.m.Write(id, 0, of(71, 72, 73, 74)) },
	}
	for name, unmap := range unmap {
		w := plain(t, 4)
		for id := 2; id <= 4; id++ {
			must(t, "Snapshot", w.m.Snapshot(id, id-1))
		}
		w.step(mover.Planned, mover.Read, mover.Wrote, mover.Read)
		for id := 1; id <= 3; id++ {
			must(t, name, unmap(w, id))
			w.wantPruned()
		}
		must(t, name, unmap(w, 4))
		w.wantPruned(w.v.Region()...)
	}
}

// TestP18_3PruneResize cuts a volume, and grows it again.
func TestP18_3PruneResize(t *testing.T) {
	w := plain(t, 6)
	w.copied()
	region := w.v.Region()
	must(t, "Resize", w.m.Resize(1, 2))
	w.wantPruned(region[2:]...)
	must(t, "Resize", w.m.Resize(1, 30))
	w.wantPruned()
	w.finish(1, 2, 0, 0, 0, 0)
}

// TestP18_3PruneWritten has a block that a write moved, since it was shared: nobody owns where it was when the other one is gone.
func TestP18_3PruneWritten(t *testing.T) {
	w := plain(t, 4)
	must(t, "Snapshot", w.m.Snapshot(2, 1))
	w.copied()
	must(t, "Write", w.m.Write(1, 1, of(77)))
	w.wantPruned()
	region := w.v.Region()
	must(t, "Delete", w.m.Delete(2))
	w.wantPruned(region[1])
	w.finish(1, 77, 3, 4)
}

// TestP18_3PruneSettled has copies that were settled since they were taken: they are given back, and free when that is settled.
func TestP18_3PruneSettled(t *testing.T) {
	w, copied, _, _ := stage(t)
	w.m.Settle()
	must(t, "Discard", w.m.Discard(1, 1, 1))
	if n := w.v.Prune(); n != 1 || w.m.Space().Taken(copied.To) {
		t.Fatalf("Prune: %d", n)
	}
	w.m.Settle()
	if !w.isFree(copied.To) {
		t.Fatalf("%d is not free", copied.To)
	}
	w.finish(1, 0, 3, 4, 5, 6)
}

// wantCancelled demands that Cancel lets all entries go, whose To are free then.
func (w *world) wantCancelled(count int) {
	w.Helper()
	before, done := w.tells(), w.b.Done()
	if n := w.v.Cancel(); n != count || w.b.Done() != done {
		w.Fatalf("Cancel: %d, not %d", n, count)
	}
	w.wantRegion()
	for _, e := range before.Region {
		if !w.isFree(e.To) || !w.m.Space().Taken(e.From) {
			w.Fatalf("of %v something is not as it was", e)
		}
	}
	after := w.tells()
	if after.Count != before.Count+count {
		w.Fatalf("%d were free, and %d are", before.Count, after.Count)
	}
	before.Region, before.On, before.Free, before.Count = after.Region, after.On, after.Free, after.Count
	wantSame(w.T, "Cancel", after, before)
	w.wantOwn()
	if n := w.v.Cancel(); n != 0 {
		w.Fatalf("Cancel: %d", n)
	}
}

// TestP18_3Cancel cancels ahead of each step, so that entries are in each state that there may be.
func TestP18_3Cancel(t *testing.T) {
	for steps := range enough {
		w := plain(t, 6)
		before := w.tells()
		did := 0
		for range steps {
			var err error
			did, err = w.v.Step()
			must(t, "Step", err)
		}
		w.wantCancelled(len(w.v.Region()))
		w.want(1, 0, span(1, 6)...)
		if steps <= 9 {
			// No region was swapped yet, so that all is as it was.
			wantSame(t, "Cancel", w.tells(), before)
		}
		w.finish(span(1, 6)...)
		if did == mover.Empty {
			break
		}
	}
}

// TestP18_3CancelActive lets the device be used again: what was read or copied plays no part any more.
func TestP18_3CancelActive(t *testing.T) {
	w, _, _, _ := stage(t)
	w.wantCancelled(4)
	w.turn(0, api.Active)
	must(t, "Write", w.m.Write(1, 0, of(span(71, 6)...)))
	w.want(1, 0, span(71, 6)...)
	w.leave(0)
	w.finish(span(71, 6)...)
}

// TestP18_3CancelRead begins anew behind a Cancel: what was read ahead of it is not written any more.
func TestP18_3CancelRead(t *testing.T) {
	w, _, _, _ := stage(t)
	w.wantCancelled(4)
	w.writeAt(w.m.Map(1, 0), 77)
	must(t, "Written", w.v.Written(w.m.Map(1, 0), of(77)))
	w.step(mover.Planned, mover.Read, mover.Wrote)
	if !bytes.Equal(w.at(w.v.Region()[0].To), of(77)) {
		t.Fatal("the copy is another one")
	}
	w.finish(77, 2, 3, 4, 5, 6)
}
