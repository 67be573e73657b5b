package thin_test

import (
	"errors"
	"math"
	"slices"
	"testing"

	"portage/api"
	"portage/space"
)

// keep is all that waits, kept by a crash.
func (w *world) keep() {
	w.b.Crash(slices.Repeat([]int{math.MaxInt}, w.b.Pending())...)
}

// isFree tells whether an address may be taken.
func (w *world) isFree(addr int) bool {
	device, _ := space.At(addr)
	return device >= 0 && slices.Contains(w.free(device, w.m.Space().Roster().List[device].Size), addr)
}

// wantStays demands that a write of one block is done where it is.
func (w *world) wantStays(id, block, c int) {
	w.Helper()
	before := w.tells()
	w.write(id, block, c)
	w.want(id, block, c)
	after := w.tells()
	for o, was := range before.Blocks {
		if now := after.Blocks[o]; now.Addr != was.Addr || now.Data != was.Data && (o.Vol != id || o.Block != block) {
			w.Fatalf("the block %v is at %d, and was at %d, or has other bytes", o, now.Addr, was.Addr)
		}
	}
	after.Blocks = before.Blocks
	wantSame(w.T, "a write where it is", after, before)
	if before.Blocks == nil || w.m.Map(id, block) == 0 {
		w.Fatalf("the block %d of %d is not mapped", block, id)
	}
}

// wantMoves demands that a write of one block is done at an address that was free, and that all other blocks have what they had.
func (w *world) wantMoves(id, block, c int) {
	w.Helper()
	was := w.m.Map(id, block)
	others := w.m.Owners(was)
	before := w.tells()
	w.write(id, block, c)
	w.want(id, block, c)
	now := w.m.Map(id, block)
	if now == was || now == 0 {
		w.Fatalf("the block %d of %d is at %d, and was at %d", block, id, now, was)
	}
	if device, _ := space.At(now); !slices.Contains(before.Free[device], now) {
		w.Fatalf("the block %d of %d is at %d, which was not free", block, id, now)
	}
	for o, x := range before.Blocks {
		if data, err := w.m.Read(o.Vol, o.Block, 1); (o.Vol != id || o.Block != block) && (err != nil || digest(data) != x.Data || w.m.Map(o.Vol, o.Block) != x.Addr) {
			w.Fatalf("the block %v is not as it was", o)
		}
	}
	if was != 0 && w.m.Space().Taken(was) != (len(others) > 1) {
		w.Fatalf("%d had %v, and is taken: %t", was, others, w.m.Space().Taken(was))
	}
	w.wantOwn()
}

func TestP14_3OneOwner(t *testing.T) {
	w := made(t, 60, 50)
	w.create(1, 20)
	w.wantMoves(1, 3, 1)
	// Fresh or settled, saved or not: it has one owner, and is not fenced.
	w.wantStays(1, 3, 2)
	w.m.Settle()
	w.wantStays(1, 3, 3)
	w.save()
	w.wantStays(1, 3, 4)
	w.m.Settle()
	w.wantStays(1, 3, 5)
	w.wantMoves(1, 4, 6)
	w.wantStays(1, 3, 7)
	w.resize(1, 10)
	w.discard(1, 4, 6)
	w.wantStays(1, 3, 8)
	r, err := w.m.Space().Roster().Drain(func() int { device, _ := space.At(w.m.Map(1, 3)); return device }())
	must(t, "Drain", err)
	must(t, "Turn", w.m.Turn(r))
	w.wantStays(1, 3, 9)
}

func TestP14_3SeveralOwners(t *testing.T) {
	w := made(t, 60, 50)
	w.create(1, 20)
	w.write(1, 3, 1)
	w.snapshot(2, 1)
	w.snapshot(3, 2)
	w.wantMoves(2, 3, 2)
	w.wantStays(2, 3, 3)
	w.wantMoves(1, 3, 4)
	w.wantStays(1, 3, 5)
	w.want(3, 3, 1)
	w.want(2, 3, 3)
	w.wantData(3)
	// Two owners had left the one that is left.
	w.wantMoves(3, 3, 6)
	w.wantData(3)
	w.wantStays(3, 3, 7)
}

// TestP14_3Fenced takes an owner away by each call that does so: the other one is fenced, till all is settled.
func TestP14_3Fenced(t *testing.T) {
	for what, away := range map[string]func(w *world){
		"Write":          func(w *world) { w.write(2, 3, 9) },
		"Write of many":  func(w *world) { w.write(2, 0, span(20, 8)...) },
		"Discard":        func(w *world) { w.discard(2, 3, 1) },
		"Discard of all": func(w *world) { w.discard(2, 0, 20) },
		"Delete":         func(w *world) { w.delete(2) },
		"Resize":         func(w *world) { w.resize(2, 3) },
		"Resize to 1":    func(w *world) { w.resize(2, 1) },
	} {
		for _, settled := range []bool{false, true} {
			for _, behind := range []string{"", "Save", "Settle", "Commit", "Back"} {
				w := made(t, 60, 50)
				w.create(1, 20)
				w.write(1, 2, 5, 6, 7)
				w.snapshot(2, 1)
				if settled {
					w.save()
					w.m.Settle()
				}
				if behind == "Commit" || behind == "Back" {
					w.begin()
				}
				away(w)
				switch behind {
				case "Save":
					w.save()
				case "Settle":
					w.m.Settle()
					w.wantStays(1, 3, 11)
					continue
				case "Commit":
					w.commit()
				case "Back":
					// Both own it again.
					w.back()
				}
				w.wantMoves(1, 3, 10)
				w.wantStays(1, 3, 11)
				if t.Failed() {
					t.Fatalf("%s, %s", what, behind)
				}
			}
		}
	}
}

// TestP14_3FencedNoMore demands that no fence is left at an address that nobody owned since, and that another one took.
func TestP14_3FencedNoMore(t *testing.T) {
	w := made(t, 60)
	w.create(1, 20)
	w.write(1, 3, 1)
	addr := w.m.Map(1, 3)
	w.snapshot(2, 1)
	w.delete(2)
	w.discard(1, 3, 1)
	if !w.isFree(addr) {
		t.Fatalf("%d was fresh, and is not free", addr)
	}
	w.create(3, 20)
	for block := range 20 {
		w.write(3, block, block+1)
	}
	if len(w.m.Owners(addr)) != 1 {
		t.Fatalf("%d was not taken again", addr)
	}
	for block := range 20 {
		w.wantStays(3, block, block+50)
	}
}

// TestP14_3Begun writes between Begin and its end: each block moves at each write.
func TestP14_3Begun(t *testing.T) {
	for _, settled := range []bool{false, true} {
		w := made(t, 60, 50)
		w.create(1, 20)
		w.write(1, 2, 5, 6, 7)
		w.snapshot(2, 1)
		w.write(1, 2, 8)
		if settled {
			w.m.Settle()
		}
		w.begin()
		for c := range 3 {
			for block := range 6 {
				w.wantMoves(1, block, c+10)
				w.wantMoves(2, block, c+20)
			}
		}
		w.m.Settle()
		w.wantMoves(1, 3, 30)
		w.save()
		w.wantMoves(1, 3, 31)
		w.commit()
		w.wantStays(1, 3, 32)
		w.wantStays(1, 2, 33)
		w.wantEmpty()
	}
}

// TestP14_3SomeStay writes a run of which some blocks stay, some are shared, some are fenced, and some are not mapped.
func TestP14_3SomeStay(t *testing.T) {
	w := made(t, 60, 50)
	w.create(1, 20)
	w.write(1, 0, span(1, 6)...)
	w.snapshot(2, 1)
	w.write(1, 0, 11, 12)
	w.discard(2, 2, 2)
	var was []int
	for block := range 8 {
		was = append(was, w.m.Map(1, block))
	}
	free := w.tells().Free
	w.write(1, 0, span(21, 8)...)
	for block := range 8 {
		now := w.m.Map(1, block)
		if stays := now == was[block]; stays != (block < 2) || !stays && !slices.Contains(slices.Concat(free...), now) {
			t.Errorf("the block %d was at %d, and is at %d", block, was[block], now)
		}
	}
	w.want(1, 0, span(21, 8)...)
	w.want(2, 0, 1, 2, 0, 0, 5, 6)
	w.wantOwn()
}

// TestP14_3InPlaceFails has a device gone for one of the blocks that would be written where they are: none of the others is written, whichever comes first.
func TestP14_3InPlaceFails(t *testing.T) {
	w := made(t, 60, 58)
	w.create(1, 20)
	isFar := func(block int) bool {
		device, _ := space.At(w.m.Map(1, block))
		return device == 1
	}
	var far []int
	for block := range 20 {
		w.write(1, block, block+1)
		if isFar(block) {
			far = append(far, block)
		}
	}
	must(t, "Detach", w.b.Detach(1))
	afterNear := 0
	for count := 1; count <= api.MaxRun; count++ {
		for at := 0; at+count <= 20; at++ {
			lost := slices.IndexFunc(span(at, count), isFar)
			if lost < 0 {
				w.write(1, at, span(at+1, count)...)
				continue
			}
			if lost > 0 {
				afterNear++
			}
			w.refuses("Write", broken("write", w.m.Map(1, at+lost), api.ErrGone), func() error { return w.m.Write(1, at, of(span(90, count)...)) })
		}
	}
	if afterNear < 10 {
		t.Fatalf("%v are on the device that is gone", far)
	}
	for block := range 20 {
		if !isFar(block) {
			w.want(1, block, block+1)
			w.wantStays(1, block, block+1)
		}
	}
}

// TestP14_3NoPower lets the power go at each write of a run: the error is ErrDown, and each block has what it had, or what it should get.
func TestP14_3NoPower(t *testing.T) {
	for _, begun := range []bool{false, true} {
		for n := 0; ; n++ {
			w := made(t, 60, 50)
			w.create(1, 20)
			w.write(1, 0, span(1, 6)...)
			w.snapshot(2, 1)
			w.write(1, 0, 11, 12)
			if begun {
				w.begin()
			}
			before := w.tells()
			w.b.Arm(n)
			err := w.m.Write(1, 0, of(span(21, 8)...))
			if err == nil {
				if n < 10 {
					t.Fatalf("Write is done with %d writes", n)
				}
				break
			}
			if !errors.Is(err, api.ErrDown) {
				t.Fatalf("Write: %v", err)
			}
			if err := w.m.Write(1, 0, of(span(21, 8)...)); !errors.Is(err, api.ErrDown) {
				t.Fatalf("Write without power: %v", err)
			}
			w.keep()
			after := w.tells()
			for block, list := range [][]int{{11, 21}, {12, 22}} {
				data, err := w.m.Read(1, block, 1)
				must(t, "Read", err)
				if string(data) != string(of(list[0])) && string(data) != string(of(list[1])) {
					t.Fatalf("the block %d has something else", block)
				}
			}
			for o := range after.Blocks {
				if o.Vol == 1 && o.Block < 2 {
					after.Blocks[o] = before.Blocks[o]
				}
			}
			wantSame(t, "Write", after, before)
			w.write(1, 0, span(31, 8)...)
			w.want(1, 0, span(31, 8)...)
			w.want(2, 0, span(1, 6)...)
			w.wantOwn()
		}
	}
}

// TestP14_3Room has just as many addresses free as a write needs, and one less.
func TestP14_3Room(t *testing.T) {
	// The first block needs itself and a page; the next one itself and a page, while the one ahead of it stays till the end.
	w := made(t, api.Slots+2)
	w.create(1, 20)
	w.write(1, 5, 1)
	w.fails("Write", api.ErrFull, func() error { return w.m.Write(1, 6, of(2)) })
	w.wantStays(1, 5, 3)
	w.snapshot(2, 1)
	w.fails("Write", api.ErrFull, func() error { return w.m.Write(1, 5, of(2)) })
	w.fails("Write", api.ErrFull, func() error { return w.m.Write(2, 5, of(2)) })
	w.want(1, 5, 3)
	w.delete(1)
	w.fails("Write", api.ErrFull, func() error { return w.m.Write(2, 5, of(2)) })
	w.m.Settle()
	w.wantStays(2, 5, 4)
	w.discard(2, 5, 1)
	w.m.Settle()
	w.write(2, 6, 2)
	w.wantOwn()

	w = made(t, api.Slots+1)
	w.create(1, 20)
	w.fails("Write", api.ErrFull, func() error { return w.m.Write(1, 6, of(2)) })
	w = made(t)
	w.create(1, 20)
	w.fails("Write", api.ErrFull, func() error { return w.m.Write(1, 6, of(2)) })
	w.want(1, 6, 0)
}

// TestP14_3Refill fills devices, block by block and run by run, till they are full, and does so again when all was discarded: each time as much has room.
func TestP14_3Refill(t *testing.T) {
	for run := 1; run <= api.MaxRun; run++ {
		w := made(t, 40, 30)
		w.create(1, 1000)
		count := -1
		for range 3 {
			block := 0
			for {
				data := of(span(block+1, run)...)
				before := w.tells()
				err := w.m.Write(1, block, data)
				if err != nil {
					wantError(t, "Write", err, api.ErrFull)
					wantSame(t, "Write", w.tells(), before)
					break
				}
				block += run
			}
			w.want(1, 0, append(span(1, block), 0, 0, 0)...)
			if count >= 0 && block != count {
				t.Fatalf("%d blocks have room, and %d had", block, count)
			}
			count = block
			w.discard(1, 0, 1000)
			w.m.Settle()
			w.wantOwn()
		}
	}
}

// TestP14_3DiscardAll demands that all blocks can be discarded where there is no room at all, for nothing needs to be written.
func TestP14_3DiscardAll(t *testing.T) {
	for _, call := range []func(w *world){
		func(w *world) { w.discard(1, 0, 20) },
		func(w *world) { w.resize(1, 1) },
		func(w *world) { w.delete(1) },
	} {
		w := made(t, 30)
		w.create(1, 20)
		w.write(1, 1, span(1, 8)...)
		w.write(1, 9, span(9, 8)...)
		var others []int
		for w.m.Space().Free() > 0 {
			addr, err := w.m.Space().Take()
			must(t, "Take", err)
			others = append(others, addr)
		}
		w.fails("Discard", api.ErrFull, func() error { return w.m.Discard(1, 1, 1) })
		w.b.Arm(0)
		call(w)
		w.wantData(0)
		w.wantOwn(others...)
	}
}
