package mover_test

import (
	"bytes"
	"errors"
	"maps"
	"slices"
	"testing"

	"portage/api"
	"portage/dirty"
	"portage/mover"
	"portage/space"
	"portage/thin"
)

// shared has volumes that share blocks and pages, of which some are on each of two devices, and leaves the first one.
func shared(t *testing.T) *world {
	t.Helper()
	w := made(t, 60, 60, 50)
	w.create(1, 20, span(1, 12)...)
	must(t, "Snapshot", w.m.Snapshot(2, 1))
	must(t, "Write", w.m.Write(1, 0, of(31, 32)))
	w.create(3, 20, span(41, 9)...)
	must(t, "Snapshot", w.m.Snapshot(4, 3))
	must(t, "Discard", w.m.Discard(4, 3, 1))
	must(t, "Delete", w.m.Delete(3))
	w.elsewhere(5)
	_, err := w.m.Save()
	must(t, "Save", err)
	w.m.Settle()
	w.leave(0)
	if data, pages := w.v.Left(); data < 9 || pages < 3 {
		t.Fatalf("%d blocks and %d pages are on the device", data, pages)
	}
	return w
}

// elsewhere lets a volume be there whose block is on the device 1, and whose page on the device 0: that stays there till all blocks are gone.
func (w *world) elsewhere(id int) {
	w.Helper()
	w.turn(2, api.Draining)
	room := func(device int) int { return w.b.Sizes()[device] - w.m.Space().Used(device) }
	var taken []int
	for room(1) != room(0)+1 {
		addr, err := w.m.Space().Take()
		must(w.T, "Take", err)
		taken = append(taken, addr)
	}
	w.create(id, 9, 61)
	w.giveAll(taken)
	w.turn(2, api.Active)
}

// wantOnly demands that nothing that is told has changed but the region, and what is taken for it.
func (w *world) wantOnly(what string, was told, region []dirty.Entry) {
	w.Helper()
	now := w.tells()
	if !slices.Equal(now.Region, region) {
		w.Fatalf("%s: the region is %v, not %v", what, now.Region, region)
	}
	for _, e := range region {
		if !w.m.Space().Taken(e.To) || len(w.m.Owners(e.To)) > 0 {
			w.Fatalf("%s: %d is not taken, or somebody's", what, e.To)
		}
	}
	now.Region, now.On, now.Free, now.Count = was.Region, was.On, was.Free, was.Count
	wantSame(w.T, what, now, was)
	w.wantOwn()
}

// TestP18_2Planned has so many blocks on the device, of which the least addresses are planned, with what the space gives in its order.
func TestP18_2Planned(t *testing.T) {
	for count := 1; count <= 9; count++ {
		list := make([]*world, 2)
		for i := range list {
			w := made(t, 60, 25, 24)
			w.create(1, 40, span(1, count+2)...)
			must(t, "Discard", w.m.Discard(1, 1, 2))
			w.leave(0)
			list[i] = w
		}
		w, twin := list[0], list[1]
		w.wantLeft(count, len(w.m.Pages()))
		var want []dirty.Entry
		for _, from := range w.m.Data()[:min(count, api.Region)] {
			to, err := twin.m.Space().Take()
			must(t, "Take", err)
			want = append(want, dirty.Entry{From: from, To: to, State: dirty.Planned})
		}
		before, done := w.tells(), w.b.Done()
		w.step(mover.Planned)
		w.wantOnly("Planned", before, want)
		if w.b.Done() != done || w.m.Space().Free() != before.Count-len(want) {
			t.Fatalf("%d were free, and %d are", before.Count, w.m.Space().Free())
		}
	}
}

// TestP18_2First has blocks on several devices: just those on the device are planned.
func TestP18_2First(t *testing.T) {
	w := shared(t)
	mine := on(0, w.m.Data())
	for len(mine) > 0 {
		w.step(mover.Planned)
		region := w.v.Region()
		if len(region) != min(len(mine), api.Region) {
			t.Fatalf("%v of %v are planned", region, mine)
		}
		for i, e := range region {
			if e.From != mine[i] || e.To/api.MaxSectors == 0 || e.State != dirty.Planned {
				t.Fatalf("%v of %v are planned", region, mine)
			}
		}
		for range region {
			w.step(mover.Read, mover.Wrote)
		}
		w.step(mover.Swapped)
		mine = mine[len(region):]
		if got := on(0, w.m.Data()); !slices.Equal(got, mine) {
			t.Fatalf("%v are on the device, not %v", got, mine)
		}
	}
	w.step(mover.Moved, mover.Empty)
}

// TestP18_2ReadWrote copies a region entry by entry: each is read and then written, by rising From.
func TestP18_2ReadWrote(t *testing.T) {
	w := shared(t)
	w.step(mover.Planned)
	region := w.v.Region()
	for i, e := range region {
		before, done, was := w.tells(), w.b.Done(), w.at(e.To)
		w.step(mover.Read)
		region[i].State = dirty.Read
		w.wantOnly("Read", before, region)
		if w.b.Done() != done || !bytes.Equal(w.at(e.To), was) {
			t.Fatal("reading writes")
		}
		before = w.tells()
		w.step(mover.Wrote)
		region[i].State = dirty.Copied
		w.wantOnly("Wrote", before, region)
		if w.b.Done() != done+1 || !bytes.Equal(w.at(e.To), w.at(e.From)) || bytes.Equal(w.at(e.To), was) {
			t.Fatalf("what is at %d is not at %d", e.From, e.To)
		}
	}
}

// TestP18_2WroteWhatWasRead demands that just what was read is written, whatever stands there by then without anybody's telling it.
func TestP18_2WroteWhatWasRead(t *testing.T) {
	w := shared(t)
	w.step(mover.Planned)
	for _, e := range w.v.Region() {
		was := w.at(e.From)
		w.step(mover.Read)
		w.lay(e.From, 999)
		w.step(mover.Wrote)
		if !bytes.Equal(w.at(e.To), was) {
			t.Fatalf("what was read at %d is not at %d", e.From, e.To)
		}
	}
}

// copied goes on to where all entries of a region are Copied.
func (w *world) copied() {
	w.Helper()
	w.step(mover.Planned)
	for range w.v.Region() {
		w.step(mover.Read, mover.Wrote)
	}
}

// swaps demands that a step lets the blocks of its region be at their copies, and changes nothing else of the volumes.
func (w *world) swaps(region []dirty.Entry, what int) {
	w.Helper()
	before := w.tells()
	to := map[int]int{}
	for _, e := range region {
		to[e.From] = e.To
	}
	w.step(what)
	after := w.tells()
	for o, x := range before.Blocks {
		if at, moved := to[x.Addr]; moved {
			x.Addr = at
			before.Blocks[o] = x
		}
	}
	if !maps.Equal(after.Blocks, before.Blocks) || !slices.Equal(after.List, before.List) {
		w.Fatalf("%v are the blocks, not %v", after.Blocks, before.Blocks)
	}
	for from := range to {
		if w.m.Space().Taken(from) || len(w.m.Owners(from)) > 0 {
			w.Fatalf("%d is not given back", from)
		}
	}
	w.wantRegion()
	w.wantOwn()
	w.wantSaved()
}

// wantSaved demands that what is on the devices by now are the same volumes.
func (w *world) wantSaved() {
	w.Helper()
	r := w.m.Space().Roster()
	m, err := thin.Load(w.b, r, w.m.Root())
	must(w.T, "Load", err)
	other := &world{T: w.T, b: w.b, m: m}
	wantSame(w.T, "Load", other.volumes(), w.volumes())
}

func TestP18_2Swapped(t *testing.T) {
	w := shared(t)
	w.copied()
	region := w.v.Region()
	w.swaps(region, mover.Swapped)
	// Pages stay on the device, since just addresses are swapped.
	if _, pages := w.v.Left(); pages == 0 {
		t.Fatal("no page is on the device any more")
	}
	// A block that has one owner is written where it is now.
	alone := 0
	for _, e := range region {
		w.lay(e.From, 999)
		owners := w.m.Owners(e.To)
		o := owners[0]
		must(t, "Write", w.m.Write(o.Vol, o.Block, of(77)))
		isThere := w.m.Map(o.Vol, o.Block) == e.To && bytes.Equal(w.at(e.To), of(77))
		if isThere != (len(owners) == 1) {
			t.Fatalf("the block of %v is at %d", owners, w.m.Map(o.Vol, o.Block))
		}
		if isThere {
			alone++
		}
	}
	if alone == 0 || alone == len(region) {
		t.Fatalf("%d of %v have one owner", alone, region)
	}
}

func TestP18_2MovedEmpty(t *testing.T) {
	w := shared(t)
	for data, _ := w.v.Left(); data > 0; data, _ = w.v.Left() {
		w.copied()
		w.swaps(w.v.Region(), mover.Swapped)
	}
	pages, free := w.m.Pages(), w.m.Space().Free()
	w.swaps(nil, mover.Moved)
	if len(w.m.Pages()) != len(pages) || len(on(0, w.m.Pages())) != 0 || w.m.Space().Free() >= free {
		t.Fatalf("the pages are %v, and were %v", w.m.Pages(), pages)
	}
	for range 3 {
		before, done := w.tells(), w.b.Done()
		w.b.Arm(0)
		w.step(mover.Empty)
		w.b.Arm(-1)
		wantSame(t, "Empty", w.tells(), before)
		if w.b.Done() != done {
			t.Fatal("Empty writes")
		}
	}
	w.m.Settle()
	if w.m.Space().Used(0) != 0 {
		t.Fatalf("%d are in use on the device", w.m.Space().Used(0))
	}
}

// TestP18_2Nothing has devices on which nothing is, without volumes and with some that are elsewhere.
func TestP18_2Nothing(t *testing.T) {
	w := made(t, 20, 20)
	w.leave(1)
	w.step(mover.Empty)
	w.create(1, 9, 1, 2, 3)
	w.step(mover.Empty)
	w.want(1, 0, 1, 2, 3)
}

// TestP18_2PagesOnly has pages on the device, and no blocks.
func TestP18_2PagesOnly(t *testing.T) {
	w := made(t, 19, 20)
	w.create(1, 9, 5)
	w.leave(0)
	w.wantLeft(0, 1)
	w.swaps(nil, mover.Moved)
	w.step(mover.Empty)
}

// TestP18_2ReadFails has sectors that can't be read, wherever one is in a region.
func TestP18_2ReadFails(t *testing.T) {
	for bad := range api.Region {
		w := shared(t)
		w.step(mover.Planned)
		e := w.v.Region()[bad]
		device, sector := space.At(e.From)
		must(t, "Bad", w.b.Bad(device, sector, true))
		for range bad {
			w.step(mover.Read, mover.Wrote)
		}
		for range 3 {
			w.fails("Read", broken("read", e.From, api.ErrRead))
		}
		must(t, "Bad", w.b.Bad(device, sector, false))
		w.step(mover.Read, mover.Wrote)
		for range api.Region - bad - 1 {
			w.step(mover.Read, mover.Wrote)
		}
		w.swaps(w.v.Region(), mover.Swapped)
	}
}

// TestP18_2ReadOnce demands that what was read need not be read once more, when its sector can't be by then.
func TestP18_2ReadOnce(t *testing.T) {
	w := shared(t)
	w.step(mover.Planned, mover.Read)
	e := w.v.Region()[0]
	was := w.at(e.From)
	device, sector := space.At(e.From)
	must(t, "Bad", w.b.Bad(device, sector, true))
	w.step(mover.Wrote)
	if !bytes.Equal(w.at(e.To), was) {
		t.Fatal("the copy is another one")
	}
}

// without demands that the power goes in a step, which tells this fault then, at each of its writes, and changes nothing; then the step is done. It tells how many writes it has.
func (w *world) without(did int, want func(place int, err error) bool) int {
	w.Helper()
	for place := range enough {
		before := w.tells()
		w.b.Arm(place)
		got, err := w.v.Step()
		w.b.Arm(-1)
		if err == nil {
			if got != did {
				w.Fatalf("Step: %d, not %d", got, did)
			}
			return place
		}
		if got != 0 || !errors.Is(err, api.ErrDown) || !want(place, err) {
			w.Fatalf("the power goes at %d: %d, %v", place, got, err)
		}
		for range 2 {
			if again, err := w.v.Step(); again != 0 || !errors.Is(err, api.ErrDown) {
				w.Fatalf("the power is down: %d, %v", again, err)
			}
		}
		w.keep()
		wantSame(w.T, "without power", w.tells(), before)
	}
	w.Fatal("the step is never done")
	return 0
}

// TestP18_2WriteFails lets the power go at each place of each step that writes.
func TestP18_2WriteFails(t *testing.T) {
	w := shared(t)
	always := func(int, error) bool { return true }
	for data, _ := w.v.Left(); data > 0; data, _ = w.v.Left() {
		w.step(mover.Planned)
		for _, e := range w.v.Region() {
			w.step(mover.Read)
			fault := broken("write", e.To, api.ErrDown)
			if n := w.without(mover.Wrote, func(_ int, err error) bool { return err.Error() == fault.Error() }); n != 1 {
				t.Fatalf("copying writes %d sectors", n)
			}
			if !bytes.Equal(w.at(e.To), w.at(e.From)) {
				t.Fatalf("what is at %d is not at %d", e.From, e.To)
			}
		}
		if n := w.without(mover.Swapped, always); n < 2 {
			t.Fatalf("swapping writes %d sectors", n)
		}
		w.wantOwn()
		w.wantSaved()
	}
	if n := w.without(mover.Moved, always); n < 2 {
		t.Fatalf("moving writes %d sectors", n)
	}
	w.wantSaved()
	w.step(mover.Empty)
}

// TestP18_2ReadDown demands that reading, too, tells that the power is down.
func TestP18_2ReadDown(t *testing.T) {
	w := shared(t)
	w.step(mover.Planned)
	before := w.tells()
	w.b.Arm(0)
	w.b.Write(1, 1, of(9))
	did, err := w.v.Step()
	wantError(t, "Step", err, broken("read", w.v.Region()[0].From, api.ErrDown))
	if did != 0 {
		t.Fatalf("Step tells %d beside an error", did)
	}
	w.keep()
	wantSame(t, "Step", w.tells(), before)
	w.step(mover.Read)
}

// scarce takes all that is free but so many addresses, and tells what it took.
func (w *world) scarce(room int) []int {
	w.Helper()
	var taken []int
	for w.m.Space().Free() > room {
		addr, err := w.m.Space().Take()
		must(w.T, "Take", err)
		taken = append(taken, addr)
	}
	return taken
}

// giveAll gives addresses back.
func (w *world) giveAll(addrs []int) {
	w.Helper()
	for _, addr := range addrs {
		must(w.T, "Give", w.m.Space().Give(addr))
	}
}

// TestP18_2NoSpace has each room that is too small for a region, and one that is just enough.
func TestP18_2NoSpace(t *testing.T) {
	for count := 1; count <= 5; count++ {
		for _, begun := range []bool{false, true} {
			w := made(t, 60, 20, 20)
			w.create(1, 40, span(1, count)...)
			w.leave(0)
			w.wantLeft(count, 1)
			needs := min(count, api.Region)
			taken := w.scarce(0)
			if begun {
				must(t, "Begin", w.m.Begin())
			}
			for room := range needs {
				if w.m.Space().Free() != room {
					t.Fatalf("%d are free, not %d", w.m.Space().Free(), room)
				}
				for range 2 {
					done := w.b.Done()
					w.fails("Planned", api.ErrSpace)
					if w.b.Done() != done {
						t.Fatal("it is refused, but writes")
					}
				}
				// What was taken ahead of Begin would not be free at once.
				if begun {
					must(t, "Back", w.m.Back())
				}
				w.giveAll(taken[:1])
				taken = taken[1:]
				if begun {
					must(t, "Begin", w.m.Begin())
				}
			}
			w.step(mover.Planned)
			if len(w.v.Region()) != needs || w.m.Space().Free() != 0 {
				t.Fatalf("Region: %v", w.v.Region())
			}
		}
	}
}

// TestP18_2NoActive has no device on which something could be taken.
func TestP18_2NoActive(t *testing.T) {
	w := made(t, 30, 20)
	w.create(1, 9, 1, 2)
	w.turn(1, api.Draining)
	w.leave(0)
	w.fails("Planned", api.ErrSpace)
	w.turn(1, api.Active)
	w.step(1, 2, 3, 2, 3, 4, 6)
	w.want(1, 0, 1, 2)
}

// refused demands that a step that has no room for its pages tells layer 14's error, and is done as soon as it has.
func (w *world) refused(did int) {
	w.Helper()
	taken := w.scarce(0)
	for room := 0; ; room++ {
		before := w.tells()
		got, err := w.v.Step()
		if err == nil {
			if got != did || room == 0 {
				w.Fatalf("Step: %d with room for %d", got, room)
			}
			break
		}
		wantError(w.T, "Step", err, api.ErrFull)
		if got != 0 {
			w.Fatalf("Step tells %d beside an error", got)
		}
		wantSame(w.T, "Step", w.tells(), before)
		w.giveAll(taken[:1])
		taken = taken[1:]
	}
	w.giveAll(taken)
	w.wantOwn()
	w.wantSaved()
}

func TestP18_2SwapRefused(t *testing.T) {
	w := shared(t)
	for data, _ := w.v.Left(); data > 0; data, _ = w.v.Left() {
		w.copied()
		w.refused(mover.Swapped)
	}
	w.refused(mover.Moved)
	w.step(mover.Empty)
}

// TestP18_2SwapTaken has a To that was given away behind the mover's back: it is refused by layer 14, and done when it is taken again.
func TestP18_2SwapTaken(t *testing.T) {
	w := shared(t)
	w.copied()
	to := w.v.Region()[2].To
	must(t, "Give", w.m.Space().Give(to))
	w.fails("Swap", api.ErrTaken)
	must(t, "Mark", w.m.Space().Mark(to))
	w.swaps(w.v.Region(), mover.Swapped)
}

// TestP18_2Begun does all steps between Begin and its end, of which Back takes back what the manager has.
func TestP18_2Begun(t *testing.T) {
	w := shared(t)
	before := w.tells()
	must(t, "Begin", w.m.Begin())
	w.all(w.wantOwn)
	after := w.volumes()
	must(t, "Commit", w.m.Commit())
	wantSame(t, "Commit", w.volumes(), after)
	w.wantSaved()

	w = shared(t)
	must(t, "Begin", w.m.Begin())
	w.all(w.wantOwn)
	must(t, "Back", w.m.Back())
	wantSame(t, "Back", w.tells(), before)
	w.all(w.wantOwn)
	wantSame(t, "all steps", w.volumes(), after)
	w.wantSaved()
}
