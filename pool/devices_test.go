package pool_test

import (
	"fmt"
	"slices"
	"testing"

	"portage/api"
	"portage/fault"
	"portage/mover"
	"portage/pool"
	"portage/roster"
	"portage/space"
	"portage/super"
)

// wantRoster demands that the pool has these entries, behind an Open too.
func (w *world) wantRoster(list ...roster.Entry) {
	w.Helper()
	for range 2 {
		if got := w.p.Info().Roster; !slices.Equal(got.List, list) {
			w.Fatalf("the roster is %v, not %v", got.List, list)
		}
		w.wantOwn()
		w.crash()
	}
}

func TestP19_3Add(t *testing.T) {
	for _, size := range []int{3, 4, 30, 4096} {
		for _, steps := range []int{-1, 5} {
			l := scene(t, steps)
			l.run(flushes())
			_, err := l.b.Add(size)
			must(t, "Add", err)
			before, was := l.p.Info(), l.volumes()
			l.run(adds(3))
			now := l.p.Info()
			if now.Room != before.Room+size-api.Slots || now.Free != before.Free+size-api.Slots || now.Gen != before.Gen+1 || now.Copies != before.Copies || now.Leaving != before.Leaving {
				t.Fatalf("Add: %+v, and it was %+v", now, before)
			}
			l.wantGen(before.Gen + 1)
			if fmt.Sprint(l.volumes()) != fmt.Sprint(was) {
				t.Fatal("Add changes volumes")
			}
			l.wantRoster(append(before.Roster.List, roster.Entry{State: api.Active, Size: size})...)
			if room := l.p.Info().Room; room != now.Room {
				t.Fatalf("the room is %d, and was %d", room, now.Room)
			}
			l.same()
		}
	}
}

func TestP19_3AddWrong(t *testing.T) {
	w := made(t, 40, 40, 40)
	w.create(1, 9, 1, 2)
	for _, device := range append([]int{3, 4}, edges...) {
		w.refuses("Add", api.ErrDevice, func() error { return w.p.Add(device) })
	}
	for _, size := range []int{1, 2, 50, 60} {
		_, err := w.b.Add(size)
		must(t, "Add", err)
	}
	isWrong := func(next int, want error) {
		t.Helper()
		for _, device := range append([]int{3, 4, 5, 6}, edges...) {
			if device != next {
				w.refuses("Add", api.ErrDevice, func() error { return w.p.Add(device) })
			} else if want != nil {
				w.refuses("Add", want, func() error { return w.p.Add(device) })
			}
		}
	}
	// What is too small may grow.
	isWrong(3, api.ErrRange)
	must(t, "Grow", w.b.Grow(3, 1))
	isWrong(3, api.ErrRange)
	must(t, "Grow", w.b.Grow(3, 1))
	must(t, "Add", w.p.Add(3))
	isWrong(4, api.ErrRange)
	must(t, "Grow", w.b.Grow(4, 8))
	must(t, "Add", w.p.Add(4))
	isWrong(5, nil)
	must(t, "Detach", w.b.Detach(5))
	// What is detached has no sectors, and all behind it is not the next one for good.
	isWrong(5, api.ErrRange)
	w.want(1, 0, 1, 2)
}

func TestP19_3AddMany(t *testing.T) {
	w := made(t, 40, 40, 40, 40, 40, 40, 40, 40)
	w.create(1, 9, 1, 2)
	for _, device := range append([]int{4}, edges...) {
		w.refuses("Add", api.ErrMany, func() error { return w.p.Add(device) })
	}
	// One that is Removed has its entry, too.
	w.left(3)
	for _, device := range append([]int{3}, edges...) {
		w.refuses("Add", api.ErrMany, func() error { return w.p.Add(device) })
	}
	w.want(1, 0, 1, 2)
}

// TestP19_3AddUsed demands that what comes is used: a pool without room has some then, and the pages of that commit are on the new device.
func TestP19_3AddUsed(t *testing.T) {
	for _, c := range []struct {
		name  string
		ahead func(w *world)
		call  func(w *world) error
		more  int
	}{
		{"Add", func(w *world) { _, err := w.b.Add(30); must(t, "Add", err) }, func(w *world) error { return w.p.Add(1) }, 28},
		{"Grow", func(w *world) { must(t, "Grow", w.b.Grow(0, 28)) }, func(w *world) error { return w.p.Grow(0) }, 28},
	} {
		refused := 0
		for size := 40; size < 70; size++ {
			w := made(t, size)
			// The catalog has several pages, all of which change.
			for id := 1; id <= 9; id++ {
				w.create(id, 60)
			}
			must(t, "Flush", w.p.Flush())
			for id := 2; id <= 9; id++ {
				w.p.Write(id, 0, of(id))
			}
			count := w.fill(1)
			before := w.tells()
			if w.p.Flush() == nil {
				continue
			}
			refused++
			wantSame(t, "Flush", w.tells(), before)
			w.lacks(flushes(), creates(12, 9), snapshots(12, 1), resizes(1, 59))
			c.ahead(w)
			w.lacks(flushes())
			must(t, c.name, c.call(w))
			i := w.p.Info()
			if i.Room != before.Info.Room+c.more {
				t.Fatalf("%s: the room is %d, and was %d", c.name, i.Room, before.Info.Room)
			}
			w.wantOwn()
			w.want(1, 0, span(1, count)...)
			w.crash()
			w.want(1, 0, append(span(1, count), make([]int, 60-count)...)...)
			if w.p.Info().Room != i.Room {
				t.Fatalf("%s: the room is %d, and was %d", c.name, w.p.Info().Room, i.Room)
			}
			w.write(1, count, 77, 78)
			must(t, "Flush", w.p.Flush())
		}
		if refused == 0 {
			t.Fatal("there was always room")
		}
	}
}

// lacks demands that calls are refused for want of room, and change nothing.
func (w *world) lacks(list ...call) {
	w.Helper()
	for _, c := range list {
		before := w.tells()
		wantError(w.T, c.name, c.do(w.p), api.ErrFull)
		wantSame(w.T, c.name, w.tells(), before)
	}
}

// fill writes blocks of a volume, one after the other, till none has room: how many have. What is of 1 is in the first one.
func (w *world) fill(id int) int {
	w.Helper()
	for count := range enough {
		before := w.tells()
		err := w.p.Write(id, count, of(count+1))
		if err == nil {
			continue
		}
		wantError(w.T, "Write", err, api.ErrFull)
		wantSame(w.T, "Write", w.tells(), before)
		return count
	}
	w.Fatal("there is always room")
	return 0
}

func TestP19_3Grow(t *testing.T) {
	for _, steps := range []int{-1, 5} {
		for device, size := range []int{60, 50, 48} {
			for _, more := range []int{1, 9, 4096 - size} {
				l := scene(t, steps)
				l.run(flushes())
				must(t, "Grow", l.b.Grow(device, more))
				before, was := l.p.Info(), l.volumes()
				l.run(grows(device))
				now := l.p.Info()
				free := more
				if before.Leaving == device {
					free = 0
				}
				if now.Room != before.Room+more || now.Free != before.Free+free || now.Gen != before.Gen+1 || now.Copies != before.Copies || now.Leaving != before.Leaving {
					t.Fatalf("Grow: %+v, and it was %+v", now, before)
				}
				if fmt.Sprint(l.volumes()) != fmt.Sprint(was) {
					t.Fatal("Grow changes volumes")
				}
				before.Roster.List[device].Size += more
				l.wantRoster(before.Roster.List...)
				l.same()
				l.refuses("Grow", api.ErrRange, func() error { return l.p.Grow(device) })
			}
		}
	}
}

func TestP19_3GrowWrong(t *testing.T) {
	w := made(t, 40, 40, 40)
	w.create(1, 9, 1, 2)
	_, err := w.b.Add(50)
	must(t, "Add", err)
	w.left(1)
	isWrong := func() {
		t.Helper()
		for _, device := range append([]int{3, 4}, edges...) {
			want := api.ErrDevice
			switch device {
			case 0, 2:
				want = api.ErrRange
			case 1:
				want = api.ErrState
			}
			w.refuses("Grow", want, func() error { return w.p.Grow(device) })
		}
	}
	isWrong()
	must(t, "Grow", w.b.Grow(1, 9))
	isWrong()
	must(t, "Detach", w.b.Detach(1))
	isWrong()
	w.want(1, 0, 1, 2)
}

// TestP19_3Rest has a bank whose devices are greater than the roster says: what is more plays no part till Grow.
func TestP19_3Rest(t *testing.T) {
	w := made(t, 12, 12)
	must(t, "Grow", w.b.Grow(0, 50))
	w.create(1, 40)
	count := w.fill(1)
	if room := w.p.Info().Room; room != 20 || count >= 20 {
		t.Fatalf("%d blocks in a room of %d", count, room)
	}
	w.open()
	if room := w.p.Info().Room; room != 20 {
		t.Fatalf("the room is %d", room)
	}
}

func TestP19_4Evacuate(t *testing.T) {
	for device := range 3 {
		l := scene(t, -1)
		before, was := l.p.Info(), l.volumes()
		l.run(evacuates(device))
		now := l.p.Info()
		if now.Leaving != device || now.Copies != 0 || now.Gen != before.Gen+1 || now.Roster.State(device) != api.Draining || now.Room != before.Room {
			t.Fatalf("Evacuate: %+v", now)
		}
		if fmt.Sprint(l.volumes()) != fmt.Sprint(was) {
			t.Fatal("Evacuate changes volumes")
		}
		before.Roster.List[device].State = api.Draining
		l.wantRoster(before.Roster.List...)
		l.same()
	}
}

func TestP19_4EvacuateWrong(t *testing.T) {
	w := made(t, 40, 40, 40, 40)
	w.create(1, 16, span(1, 16)...)
	isWrong := func(want map[int]error) {
		t.Helper()
		for _, device := range append([]int{4, 5}, edges...) {
			err, has := want[device]
			if !has {
				err = api.ErrDevice
			}
			if err != nil {
				w.refuses(fmt.Sprintf("Evacuate(%d)", device), err, func() error { return w.p.Evacuate(device) })
			}
		}
	}
	isWrong(map[int]error{0: nil, 1: nil, 2: nil, 3: nil})
	must(t, "Evacuate", w.p.Evacuate(0))
	isWrong(map[int]error{0: api.ErrState, 1: api.ErrBusy, 2: api.ErrBusy, 3: api.ErrBusy})
	w.step(mover.Planned)
	isWrong(map[int]error{0: api.ErrState, 1: api.ErrBusy, 2: api.ErrBusy, 3: api.ErrBusy})
	w.leave(func(int) {})
	isWrong(map[int]error{0: api.ErrState, 1: nil, 2: nil, 3: nil})
	w.left(2)
	must(t, "Evacuate", w.p.Evacuate(3))
	// No other one than 1 is Active: that comes ahead of ErrBusy.
	isWrong(map[int]error{0: api.ErrState, 1: api.ErrState, 2: api.ErrState, 3: api.ErrState})
	w.leave(func(int) {})
	isWrong(map[int]error{0: api.ErrState, 1: api.ErrState, 2: api.ErrState, 3: api.ErrState})
	w.want(1, 0, 1, 2)
}

func TestP19_4Idle(t *testing.T) {
	w := made(t, 40, 40)
	isIdle := func() {
		t.Helper()
		w.refuses("Cancel", api.ErrIdle, w.p.Cancel)
		w.refuses("Move", api.ErrIdle, func() error {
			did, err := w.p.Move()
			if did != 0 {
				t.Fatalf("Move tells %d beside an error", did)
			}
			return err
		})
	}
	isIdle()
	w.create(1, 9, 1, 2)
	isIdle()
	must(t, "Evacuate", w.p.Evacuate(0))
	must(t, "Cancel", w.p.Cancel())
	isIdle()
	w.left(0)
	isIdle()
	w.crash()
	isIdle()
}

// TestP19_4Cancel cancels ahead of each step, also behind a commit that settled what was taken for copies: all is as it was, and the device is used again.
func TestP19_4Cancel(t *testing.T) {
	for steps := range enough {
		for _, isSettled := range []bool{false, true} {
			w := made(t, 60, 40)
			w.create(1, 12, span(1, 8)...)
			must(t, "Flush", w.p.Flush())
			free := w.p.Info().Free
			must(t, "Evacuate", w.p.Evacuate(0))
			for range steps {
				_, err := w.p.Move()
				must(t, "Move", err)
				if w.p.Info().Leaving < 0 {
					return
				}
			}
			if isSettled {
				must(t, "Flush", w.p.Flush())
			}
			gen := w.gen()
			must(t, "Cancel", w.p.Cancel())
			i := w.p.Info()
			if i.Leaving != -1 || i.Copies != 0 || i.Roster.State(0) != api.Active || i.Free != free || w.given() != 0 {
				t.Fatalf("Cancel behind %d steps: %+v, %d were free, %d are given back", steps, i, free, w.given())
			}
			w.wantGen(gen + 1)
			w.wantOwn()
			w.want(1, 0, span(1, 8)...)
			w.crash()
			w.want(1, 0, span(1, 8)...)
			if w.p.Info().Leaving != -1 {
				t.Fatal("Cancel does not last")
			}
			w.left(0)
			w.want(1, 0, span(1, 8)...)
		}
	}
	t.Fatal("the device is never left")
}

// TestP19_4CancelRefused has no room to commit a Cancel: all that is being copied is being copied still.
func TestP19_4CancelRefused(t *testing.T) {
	refused := 0
	for small := 3; small < 8; small++ {
		for size := 14; size < 40; size++ {
			for count := size - 14; count < size+small; count++ {
				if cancelled(t, small, size, count) {
					refused++
				}
			}
		}
	}
	if refused < 5 {
		t.Fatalf("%d were refused", refused)
	}
}

// cancelled tells whether a Cancel is refused that comes when so many blocks are on devices of these sizes, and some are being copied.
func cancelled(t *testing.T, small, size, count int) bool {
	t.Helper()
	w := made(t, small, size)
	w.create(1, 60)
	w.create(2, 9, 21)
	for block := range count {
		if w.p.Write(1, block, of(block+1)) != nil {
			return false
		}
	}
	if w.p.Flush() != nil || w.p.Evacuate(0) != nil {
		return false
	}
	// A volume whose blocks all go needs no page; to commit that needs one.
	if did, err := w.p.Move(); err != nil || did != mover.Planned || w.p.Discard(2, 0, 9) != nil {
		return false
	}
	before := w.tells()
	err := w.p.Cancel()
	if err == nil {
		return false
	}
	wantError(t, "Cancel", err, api.ErrFull)
	wantSame(t, "Cancel", w.tells(), before)
	if w.p.Info().Copies == 0 || w.p.Info().Leaving != 0 {
		t.Fatalf("Cancel: %+v", w.p.Info())
	}
	w.step(mover.Read, mover.Wrote)
	must(t, "Grow", w.b.Grow(1, 30))
	must(t, "Grow", w.p.Grow(1))
	must(t, "Cancel", w.p.Cancel())
	w.left(0)
	must(t, "Detach", w.b.Detach(0))
	w.want(1, 0, span(1, count)...)
	w.want(2, 0, 0)
	return true
}

// onDevice is how many of these addresses are on a device.
func onDevice(device int, addrs []int) int {
	count := 0
	for _, addr := range addrs {
		if addr/api.MaxSectors == device {
			count++
		}
	}
	return count
}

// TestP19_4Move demands that the steps are the mover's, with a commit behind Swapped, Moved and Empty and behind no other one.
func TestP19_4Move(t *testing.T) {
	var seen [mover.Empty + 1]int
	for size := 30; size < 60; size++ {
		w := made(t, 45, size)
		w.create(1, 12, span(1, 8)...)
		w.create(2, 12, 21)
		w.create(3, 12, 31)
		must(t, "Flush", w.p.Flush())
		must(t, "Evacuate", w.p.Evacuate(0))
		gen, steps, copies := w.gen(), 0, 0
		w.leave(func(what int) {
			seen[what]++
			want := mover.Empty
			switch {
			case steps > 0 && steps == 2*copies:
				want, steps, copies = mover.Swapped, 0, 0
			case steps > 0 || copies > 0:
				want = mover.Read + steps%2
				steps++
			case w.p.Info().Copies > 0:
				want, copies = mover.Planned, w.p.Info().Copies
			case what == mover.Moved:
				want = mover.Moved
			}
			if what >= mover.Swapped {
				gen++
			}
			w.wantGen(gen)
			state, leaving := api.Draining, 0
			if want == mover.Empty {
				state, leaving = api.Removed, -1
			}
			if i := w.p.Info(); what != want || i.Roster.State(0) != state || i.Leaving != leaving || i.Copies != copies {
				t.Fatalf("behind the step %d, which must be %d: %+v", what, want, i)
			}
			if what >= mover.Moved && onDevice(0, w.p.Manager().Data())+onDevice(0, w.p.Manager().Pages()) > 0 {
				t.Fatalf("behind the step %d something is on the device", what)
			}
			w.wantOwn()
			if what >= mover.Swapped && (w.given() != 0 || w.b.Pending() != 0) {
				t.Fatalf("behind the step %d %d are given back, and %d wait", what, w.given(), w.b.Pending())
			}
		})
		w.wantRoster(roster.Entry{State: api.Removed, Size: 45}, roster.Entry{State: api.Active, Size: size})
		w.want(1, 0, span(1, 8)...)
		w.want(2, 0, 21, 0)
		w.want(3, 0, 31, 0)
	}
	if slices.Contains(seen[1:], 0) {
		t.Fatalf("not all steps were seen: %v", seen)
	}
}

// TestP19_4MoveWrites demands that steps write no more than they must: the copies one by one, and at the end superblocks on the other members alone, where none is left by which the device is a member.
func TestP19_4MoveWrites(t *testing.T) {
	w := made(t, 60, 40, 40)
	w.create(1, 12, span(1, 8)...)
	must(t, "Evacuate", w.p.Evacuate(0))
	for range enough {
		done := w.b.Done()
		did, err := w.p.Move()
		must(t, "Move", err)
		n := w.b.Done() - done
		switch did {
		case mover.Planned, mover.Read:
			if n != 0 {
				t.Fatalf("the step %d: %d writes", did, n)
			}
		case mover.Wrote:
			if n != 1 {
				t.Fatalf("the step %d: %d writes", did, n)
			}
		case mover.Empty:
			// Two members are flushed; four sectors are wiped one by one; of two superblocks each is written on two members, and these are flushed.
			if n != 2+4*2+2*4 {
				t.Fatalf("the step %d: %d writes and flushes", did, n)
			}
			if list := super.On(w.b, 0); len(list) > 0 {
				t.Fatalf("on the device that was left there is %v", list)
			}
			return
		}
	}
	t.Fatal("the device is never left")
}

// bare is a life that leaves the device 0, where blocks are that are durable, but no page.
func bare(t *testing.T) *life {
	t.Helper()
	l := lives(t, 60, 50, 48)
	l.run(creates(1, 6), writes(1, 0, span(1, 6)...), creates(2, 6), writes(2, 0, span(11, 6)...), flushes(), evacuates(0))
	// The pages that change are written anew elsewhere.
	l.run(discards(1, 5, 1), discards(2, 5, 1), flushes())
	for _, addr := range l.p.Manager().Pages() {
		if addr < api.MaxSectors {
			t.Fatalf("the page %d is on the device", addr)
		}
	}
	if len(l.p.Manager().Space().On(0)) < 2 {
		t.Fatal("there are no blocks on the device")
	}
	return l
}

// unmap discards all that is on the device 0.
func (l *life) unmap() {
	l.Helper()
	for _, addr := range l.p.Manager().Space().On(0) {
		for _, o := range l.p.Manager().Owners(addr) {
			l.run(discards(o.Vol, o.Block, 1))
		}
	}
}

// TestP19_4MoveGiven has a device on which nothing is but what was given back and is not settled: that is committed first.
func TestP19_4MoveGiven(t *testing.T) {
	for steps := range 4 {
		l := bare(t)
		for range steps {
			l.run(moves())
		}
		l.unmap()
		if l.p.Manager().Space().Used(0) == 0 || l.p.Info().Copies != 0 {
			t.Fatalf("nothing is given back: %+v", l.p.Info())
		}
		gen := l.gen
		l.step(mover.Empty)
		l.wantGen(gen + 2)
		if i := l.p.Info(); i.Roster.State(0) != api.Removed || i.Leaving != -1 {
			t.Fatalf("Move: %+v", i)
		}
		l.same()
		l.crash()
		l.same()
	}
	// Nothing is given back if nothing was there.
	l := lives(t, 30, 60)
	l.run(creates(1, 6), writes(1, 0, 1, 2), flushes(), evacuates(0))
	if l.p.Manager().Space().Used(0) != 0 {
		t.Fatal("something is on the device")
	}
	gen := l.gen
	l.run(writes(1, 3, 4), discards(1, 0, 1))
	l.step(mover.Empty)
	l.wantGen(gen + 1)
	l.same()
}

// TestP19_4MoveGivenRefused has no room to commit what was given back: the step is refused, and changes nothing.
func TestP19_4MoveGivenRefused(t *testing.T) {
	refused := 0
	for size := 12; size < 40; size++ {
		l := lives(t, 60, size)
		l.run(creates(1, 6), writes(1, 0, 1, 2, 3), flushes())
		l.run(creates(2, 60), evacuates(0), discards(1, 2, 1), writes(2, 0, 9), flushes())
		count := 0
		for l.p.Write(2, 1+count, of(21+count)) == nil && count < 50 {
			count++
		}
		l.p.Discard(1, 0, 6)
		if slices.ContainsFunc(slices.Concat(l.p.Manager().Data(), l.p.Manager().Pages()), func(addr int) bool { return addr < api.MaxSectors }) {
			continue
		}
		before := l.tells()
		did, err := l.p.Move()
		if err == nil {
			continue
		}
		wantError(t, "Move", err, api.ErrFull)
		wantSame(t, "Move", l.tells(), before)
		if did != 0 || l.p.Info().Roster.State(0) != api.Draining {
			t.Fatalf("Move tells %d beside an error", did)
		}
		refused++
		// With room it is done.
		must(t, "Grow", l.b.Grow(1, 20))
		must(t, "Grow", l.p.Grow(1))
		l.leave(func(int) {})
		l.want(2, 0, append([]int{9}, span(21, count)...)...)
		l.want(1, 0, 0, 0, 0)
	}
	if refused == 0 {
		t.Fatal("there was always room")
	}
}

// stops does steps till one is refused, which changes nothing, and tells its error.
func (w *world) stops() error {
	w.Helper()
	for range enough {
		before := w.tells()
		did, err := w.p.Move()
		if err != nil {
			if did != 0 {
				w.Fatalf("Move tells %d beside an error", did)
			}
			wantSame(w.T, "Move", w.tells(), before)
			return err
		}
		if did == mover.Empty {
			w.Fatal("the device was left without room")
		}
	}
	w.Fatal("Move never ends")
	return nil
}

// TestP19_4MoveSpace has no room for copies: Move says so, and the pool may be used as before.
func TestP19_4MoveSpace(t *testing.T) {
	var counts [2]int
	for size := 10; size < 30; size++ {
		w := made(t, 60, size)
		w.create(1, 50, span(1, 32)...)
		must(t, "Flush", w.p.Flush())
		must(t, "Evacuate", w.p.Evacuate(0))
		err := w.stops()
		wantError(t, "Move", w.stops(), err)
		switch err {
		case api.ErrSpace:
			counts[0]++
		case api.ErrFull:
			counts[1]++
		default:
			t.Fatalf("Move: %v", err)
		}
		w.want(1, 0, span(1, 32)...)
		w.write(1, 3, 77)
		w.want(1, 3, 77)
		if size%2 == 0 {
			must(t, "Cancel", w.p.Cancel())
			w.write(1, 40, 78)
		}
		// With room it goes on.
		_, err = w.b.Add(80)
		must(t, "Add", err)
		must(t, "Add", w.p.Add(2))
		if size%2 == 0 {
			must(t, "Evacuate", w.p.Evacuate(0))
		}
		w.leave(func(int) {})
		must(t, "Fill", w.b.Fill(0, nil))
		w.want(1, 0, 1, 2, 3, 77, 5)
		w.want(1, 40, 78*(1-size%2))
		w.want(1, 5, span(6, 27)...)
	}
	if slices.Contains(counts[:], 0) {
		t.Fatalf("%v were refused for want of room for copies, and for pages", counts)
	}
}

// TestP19_4MoveBad has a sector that cannot be read: the step is refused as long as it is bad.
func TestP19_4MoveBad(t *testing.T) {
	w, blocks := copying(t, 1)
	addr := w.p.Manager().Map(1, blocks[0])
	device, sector := space.At(addr)
	must(t, "Bad", w.b.Bad(device, sector, true))
	want := fault.Wrap("read", device, sector, api.ErrRead)
	for range 3 {
		w.refuses("Move", want, func() error { _, err := w.p.Move(); return err })
	}
	_, err := w.p.Read(1, blocks[0], 1)
	wantError(t, "Read", err, want)
	w.write(1, blocks[1], 77)
	must(t, "Flush", w.p.Flush())
	w.refuses("Move", want, func() error { _, err := w.p.Move(); return err })
	must(t, "Bad", w.b.Bad(device, sector, false))
	list := span(1, 8)
	list[blocks[1]] = 77
	w.finish(list...)

	// What nobody needs need not be read.
	w, blocks = copying(t, 1)
	device, sector = space.At(w.p.Manager().Map(1, blocks[0]))
	must(t, "Bad", w.b.Bad(device, sector, true))
	must(t, "Discard", w.p.Discard(1, blocks[0], 1))
	list = span(1, 8)
	list[blocks[0]] = 0
	w.finish(list...)

	// Cancel needs no read.
	w, blocks = copying(t, 1)
	device, sector = space.At(w.p.Manager().Map(1, blocks[0]))
	must(t, "Bad", w.b.Bad(device, sector, true))
	must(t, "Cancel", w.p.Cancel())
	w.want(1, blocks[1], blocks[1]+1)
}

// TestP19_4Again leaves all devices, one after the other, while others come.
func TestP19_4Again(t *testing.T) {
	w := made(t, 60, 60)
	w.create(1, 30, span(1, 20)...)
	must(t, "Snapshot", w.p.Snapshot(2, 1))
	for device := range api.MaxDevices - 2 {
		w.left(device)
		must(t, "Detach", w.b.Detach(device))
		w.want(2, 0, span(1, 20)...)
		number, err := w.b.Add(60)
		must(t, "Add", err)
		must(t, "Add", w.p.Add(number))
		w.crash()
		w.want(1, 0, append(span(1, 20), 0)...)
	}
	w.left(api.MaxDevices - 1)
	if i := w.p.Info(); i.Room != 58 || !slices.Equal(i.Roster.Members(), []int{api.MaxDevices - 2}) {
		t.Fatalf("Move: %+v", i)
	}
	w.refuses("Evacuate", api.ErrState, func() error { return w.p.Evacuate(api.MaxDevices - 2) })
	var p *pool.Pool = w.p
	w.open()
	if p == w.p {
		t.Fatal("Open tells the same pool")
	}
	w.want(2, 0, span(1, 20)...)
}
