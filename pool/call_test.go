package pool_test

import (
	"fmt"
	"slices"
	"testing"

	"portage/api"
	"portage/fault"
	"portage/mover"
	"portage/pool"
	"portage/space"
)

// TestP19_2Generations demands that each call that commits raises the generation by one, and no other one does.
func TestP19_2Generations(t *testing.T) {
	w := made(t, 60, 60, 60)
	_, err := w.b.Add(40)
	must(t, "Add", err)
	must(t, "Grow", w.b.Grow(1, 5))
	gen := 1
	for _, c := range []struct {
		call
		more int
	}{
		{creates(1, 20), 1}, {writes(1, 0, span(1, 8)...), 0}, {flushes(), 1}, {flushes(), 1}, {snapshots(2, 1), 1}, {writes(1, 2, 77), 0},
		{discards(2, 3, 1), 0}, {resizes(1, 5), 1}, {resizes(2, 900), 1}, {adds(3), 1}, {grows(1), 1}, {evacuates(0), 1}, {moves(), 0},
		{writes(2, 0, 78), 0}, {cancels(), 1}, {deletes(1), 1}, {evacuates(3), 1}, {discards(2, 0, 9), 0}, {deletes(2), 1},
	} {
		must(t, c.name, c.do(w.p))
		gen += c.more
		w.wantGen(gen)
		w.p.Read(1, 0, 1)
		w.p.Read(2, 0, 1)
		w.wantGen(gen)
	}
}

// TestP19_2Commit demands that a commit does what it must, in its order: pages are written, all members flushed, superblocks written and flushed.
func TestP19_2Commit(t *testing.T) {
	changed := func() *world {
		w := made(t, 30, 29, 28)
		w.create(1, 9, 1, 2)
		must(t, "Flush", w.p.Flush())
		w.write(1, 5, 3)
		return w
	}
	down := func(op string, device, sector int) error { return fault.Wrap(op, device, sector, api.ErrDown) }
	want := []error{
		nil, // the catalog's page, wherever it is
		down("flush", 0, 0), down("flush", 1, 0), down("flush", 2, 0),
		down("write", 0, 0), down("write", 1, 0), down("write", 2, 0),
		down("flush", 0, 0), down("flush", 1, 0), down("flush", 2, 0),
	}
	for n, want := range want {
		w := changed()
		w.b.Arm(n)
		err := w.p.Flush()
		if n == 0 {
			device, sector, _ := fault.Where(err)
			want = fault.Wrap("page", device, sector, down("write", device, sector))
		}
		wantError(t, "Flush", err, want)
		wantDead(t, w.p)
	}
	w := changed()
	done := w.b.Done()
	must(t, "Flush", w.p.Flush())
	if n := w.b.Done() - done; n != len(want) || w.b.Pending() != 0 || w.gen() != 4 {
		t.Fatalf("%d writes and flushes, and %d wait", n, w.b.Pending())
	}
	w.crash()
	w.want(1, 5, 3)
}

// TestP19_2Settled demands that a commit settles: what was given back is free, and what was shared may be written where it is.
func TestP19_2Settled(t *testing.T) {
	w := made(t, 60, 60)
	w.create(1, 30, span(1, 16)...)
	must(t, "Flush", w.p.Flush())
	full := w.p.Info().Free
	must(t, "Discard", w.p.Discard(1, 0, 5))
	if w.given() < 5 {
		t.Fatalf("%d were given back", w.given())
	}
	must(t, "Flush", w.p.Flush())
	if free := w.p.Info().Free; w.given() != 0 || free < full+5 {
		t.Fatalf("%d are free, and %d were; %d were given back", free, full, w.given())
	}
	must(t, "Snapshot", w.p.Snapshot(2, 1))
	w.write(1, 8, 77)
	addr := w.p.Manager().Map(2, 8)
	w.write(2, 8, 78)
	if w.p.Manager().Map(2, 8) == addr {
		t.Fatal("what is durable was written over")
	}
	must(t, "Delete", w.p.Delete(2))
	addr = w.p.Manager().Map(1, 9)
	w.write(1, 9, 79)
	if w.p.Manager().Map(1, 9) != addr {
		t.Fatal("a block of one owner is not written where it is, though all is settled")
	}
	w.want(1, 8, 77, 79, 11)
}

// TestP19_2Refused has each error of layer 14, at all edges.
func TestP19_2Refused(t *testing.T) {
	for _, steps := range []int{-1, 6} {
		l := scene(t, steps)
		before := l.tells()
		isRefused := func(c call) {
			t.Helper()
			if want := c.on(l.now.clone()); want != nil {
				wantError(t, c.name, c.do(l.p), want)
			}
		}
		for _, x := range edges {
			for _, y := range edges {
				for _, c := range []call{creates(x, y), snapshots(x, y), resizes(x, y), resizes(1, y), writes(x, y, 1), discards(x, y, 1), discards(1, x, y), writes(1, x, 1, 2)} {
					isRefused(c)
				}
				for _, id := range []int{x, 1} {
					data, err := l.p.Read(id, x, y)
					want := l.now.has(id, x, y)
					if want == nil && y > api.MaxRun {
						want = api.ErrBlocks
					}
					wantError(t, "Read", err, want)
					if want != nil && len(data) != 0 {
						t.Fatal("Read tells something beside an error")
					}
				}
			}
			isRefused(deletes(x))
		}
		wantSame(t, "what is refused", l.tells(), before)
		for _, size := range []int{0, 1, 127, 129, 8*api.Sector + 1, 9 * api.Sector, 1 << 20} {
			l.refuses("Write", api.ErrLength, func() error { return l.p.Write(1, 0, make([]byte, size)) })
			l.refuses("Write", api.ErrVolume, func() error { return l.p.Write(99, 0, make([]byte, size)) })
		}
		for id := 10; len(l.now) < api.MaxVolumes; id++ {
			l.run(creates(id, 1))
		}
		before = l.tells()
		isRefused(creates(9, 1))
		isRefused(snapshots(9, 1))
		wantSame(t, "what is refused", l.tells(), before)
		l.same()
	}
}

// TestP19_2RefusedWritesNothing has an error of each kind of call, behind which nothing is changed and nothing was written.
func TestP19_2RefusedWritesNothing(t *testing.T) {
	for _, steps := range []int{-1, 3} {
		l := scene(t, steps)
		for _, c := range []call{
			creates(0, 1), creates(1<<20+1, 1), creates(4, 0), creates(4, 1<<20+1), creates(1, 5),
			snapshots(0, 1), snapshots(4, 9), snapshots(2, 1), deletes(0), deletes(9), resizes(9, 1), resizes(1, 0), resizes(1, 1<<20+1),
			writes(9, 0, 1), writes(1, 0), writes(1, 0, span(1, 9)...), writes(1, 19, 1, 2), writes(1, -1, 1), writes(1, 20, 1),
			discards(9, 0, 1), discards(1, 0, 0), discards(1, 0, 21), discards(1, -1, 1), discards(1, 20, 1),
		} {
			want := c.on(l.now.clone())
			if want == nil {
				t.Fatalf("%s is right", c.name)
			}
			l.refuses(c.name, want, func() error { return c.do(l.p) })
		}
		for device, sector := range map[int]int{0: 5, 1: 5} {
			must(t, "Bad", l.b.Bad(device, sector, true))
		}
		bad := 0
		for _, addr := range []int{space.Addr(0, 5), space.Addr(1, 5)} {
			for _, o := range l.p.Manager().Owners(addr) {
				device, sector := space.At(addr)
				l.refuses("Read", fault.Wrap("read", device, sector, api.ErrRead), func() error {
					data, err := l.p.Read(o.Vol, o.Block, 1)
					if len(data) != 0 {
						t.Fatal("Read tells something beside an error")
					}
					return err
				})
				bad++
			}
		}
		if bad == 0 {
			t.Fatal("no block is bad")
		}
	}
}

// copying is a pool that leaves the device 0, behind some steps, with the blocks of the volume 1 that are there, by rising addresses. The volume 1 has of 1 to 8 from its first block on.
func copying(t *testing.T, steps int) (*world, []int) {
	t.Helper()
	w := made(t, 60, 40)
	w.create(1, 12, span(1, 8)...)
	must(t, "Evacuate", w.p.Evacuate(0))
	var blocks []int
	for _, addr := range w.p.Manager().Data() {
		if addr < api.MaxSectors {
			blocks = append(blocks, w.p.Manager().Owners(addr)[0].Block)
		}
	}
	if len(blocks) <= api.Region {
		t.Fatalf("just %v are on the device", blocks)
	}
	for range steps {
		_, err := w.p.Move()
		must(t, "Move", err)
	}
	return w, blocks
}

// step tells which is the next step of copying, if the blocks of the region have gone through so many steps.
func nextOf(steps int) int {
	switch {
	case steps == 0:
		return mover.Planned
	case steps == 1+2*api.Region:
		return mover.Swapped
	case steps%2 == 1:
		return mover.Read
	}
	return mover.Wrote
}

// finish demands that the device is left, and that the volume 1 has what is of these numbers.
func (w *world) finish(list ...int) {
	w.Helper()
	w.want(1, 0, list...)
	w.leave(func(int) { w.want(1, 0, list...) })
	must(w.T, "Fill", w.b.Fill(0, of(99)))
	w.want(1, 0, list...)
	w.crash()
	w.want(1, 0, list...)
	w.wantOwn()
}

// TestP19_2Written writes each block ahead of each step of the first region: what was copied is written at the copy, too, what was read is read once more.
func TestP19_2Written(t *testing.T) {
	for steps := range 2 + 2*api.Region {
		for place := range api.Region + 1 {
			w, blocks := copying(t, steps)
			block, addr := blocks[place], w.p.Manager().Map(1, blocks[place])
			isCopied, isRead := steps > 0 && place < (steps-1)/2, steps > 0 && steps%2 == 0 && place == (steps-1)/2
			copies, done := w.p.Info().Copies, w.b.Done()
			w.write(1, block, 77)
			if w.p.Manager().Map(1, block) != addr || w.p.Info().Copies != copies {
				t.Fatalf("%d steps: the block %d is not written where it is", steps, block)
			}
			if n := w.b.Done() - done; n != 1 && !isCopied || n != 2 && isCopied {
				t.Fatalf("%d steps: %d writes of the block %d", steps, n, block)
			}
			want := nextOf(steps)
			if isRead {
				want = mover.Read
			}
			w.step(want)
			list := span(1, 8)
			list[block] = 77
			w.finish(list...)
		}
	}
}

// TestP19_2WrittenRun writes all blocks at once, ahead of each step.
func TestP19_2WrittenRun(t *testing.T) {
	for steps := range 30 {
		w, blocks := copying(t, 0)
		for step := range steps {
			if w.p.Info().Leaving < 0 {
				break
			}
			_, err := w.p.Move()
			must(t, "Move", err)
			if step == 6 {
				w.write(1, blocks[0], 55)
			}
		}
		w.write(1, 0, span(71, 8)...)
		w.want(1, 0, span(71, 8)...)
		if w.p.Info().Leaving >= 0 {
			w.finish(span(71, 8)...)
		}
	}
}

// TestP19_2WrittenShared writes a block that is shared while it is copied: it moves, and its copy is the other owner's.
func TestP19_2WrittenShared(t *testing.T) {
	for steps := range 2 + 2*api.Region {
		for place := range api.Region + 1 {
			w, blocks := copying(t, 0)
			must(t, "Snapshot", w.p.Snapshot(2, 1))
			for range steps {
				_, err := w.p.Move()
				must(t, "Move", err)
			}
			block, copies := blocks[place], w.p.Info().Copies
			addr := w.p.Manager().Map(1, block)
			w.write(1, block, 77)
			if now := w.p.Manager().Map(1, block); now == addr || now < api.MaxSectors || w.p.Info().Copies != copies {
				t.Fatalf("%d steps: the block %d is at %d", steps, block, now)
			}
			w.step(nextOf(steps))
			list := span(1, 8)
			list[block] = 77
			// The other owner goes, too: then the entry does, and the block that is fenced no more.
			if steps%2 == 0 {
				had := w.p.Info().Copies
				must(t, "Write", w.p.Write(2, block, of(78)))
				isIn := steps < 1+2*api.Region && place < api.Region
				if now := w.p.Info().Copies; isIn && now != had-1 || !isIn && now != had {
					t.Fatalf("%d steps: %d copies, and %d were", steps, now, had)
				}
				w.want(2, block, 78)
			} else {
				w.want(2, block, block+1)
			}
			w.want(2, 11, 0)
			w.finish(list...)
		}
	}
}

// unmapping are ways in which a block is mapped no more.
func unmapping() map[string]func(p *pool.Pool, block int) error {
	return map[string]func(p *pool.Pool, block int) error{
		"Discard": func(p *pool.Pool, block int) error { return p.Discard(1, block, 1) },
		"Resize": func(p *pool.Pool, block int) error {
			if err := p.Resize(1, block); err != nil {
				return err
			}
			return p.Resize(1, 12)
		},
		"Delete": func(p *pool.Pool, _ int) error { return p.Delete(1) },
	}
}

// TestP19_2Unmapped unmaps each block ahead of each step of the first region: its entry goes, and what was taken for the copy is free at once.
func TestP19_2Unmapped(t *testing.T) {
	for name, unmap := range unmapping() {
		for steps := range 2 + 2*api.Region {
			for place := range api.Region + 1 {
				w, blocks := copying(t, steps)
				block := blocks[place]
				if name == "Resize" && block == 0 {
					continue
				}
				list := span(1, 8)
				gone := func(at int) bool { return at == block || name == "Resize" && at > block || name == "Delete" }
				copies := 0
				for at, b := range blocks[:api.Region] {
					if gone(b) && at < api.Region && w.p.Info().Copies > 0 {
						copies++
					}
				}
				before := w.p.Info()
				must(t, name, unmap(w.p, block))
				now := w.p.Info()
				if now.Copies != before.Copies-copies {
					t.Fatalf("%s, %d steps, place %d: %d copies, and %d were", name, steps, place, now.Copies, before.Copies)
				}
				w.wantOwn()
				if name != "Discard" && w.given() != 0 {
					t.Fatalf("%s: %d are not settled", name, w.given())
				}
				if name == "Delete" {
					w.leave(func(int) {})
					continue
				}
				for at := range list {
					if gone(at) {
						list[at] = 0
					}
				}
				w.finish(list...)
			}
		}
	}
}

// TestP19_2UnmappedAll discards all that is copied: another region is planned, or the device is left at once.
func TestP19_2UnmappedAll(t *testing.T) {
	for steps := range 2 + 2*api.Region {
		w, blocks := copying(t, steps)
		list := span(1, 8)
		for _, block := range blocks[:api.Region] {
			must(t, "Discard", w.p.Discard(1, block, 1))
			list[block] = 0
		}
		if i := w.p.Info(); i.Copies != 0 {
			t.Fatalf("%d copies", i.Copies)
		}
		w.step(mover.Planned)
		if n := w.p.Info().Copies; n != min(api.Region, len(blocks)-api.Region) {
			t.Fatalf("%d copies", n)
		}
		w.finish(list...)
	}
}

// TestP19_2Flush demands that all that was acknowledged ahead of Flush is durable.
func TestP19_2Flush(t *testing.T) {
	l := scene(t, -1)
	l.run(flushes())
	before := l.volumes()
	l.crash()
	l.same()
	if now := l.volumes(); fmt.Sprint(now) != fmt.Sprint(before) {
		t.Fatalf("%v, not %v", now, before)
	}
	if !slices.Equal(l.p.Info().Volumes, l.now.list()) {
		t.Fatalf("%v", l.p.Info())
	}
}
