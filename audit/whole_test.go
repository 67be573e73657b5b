package audit_test

import (
	"bytes"
	"fmt"
	"math"
	"reflect"
	"slices"
	"testing"

	"portage/api"
	"portage/audit"
	"portage/mover"
	"portage/plan"
	"portage/pool"
	"portage/queue"
	"portage/roster"
	"portage/space"
)

// leaveIn does steps till the device is left, at most as many as layer 17 says, for so many crashes and writes meanwhile.
func (l *life) leaveIn(crashes, writes int) {
	l.Helper()
	data := 0
	leaving := l.p.Info().Leaving
	for _, addr := range l.p.Manager().Data() {
		if device, _ := space.At(addr); device == leaving {
			data++
		}
	}
	most, err := plan.Bound(data, crashes, writes)
	must(l.T, "Bound", err)
	for range most {
		did, err := l.p.Move()
		must(l.T, "Move", err)
		l.note(l.now.clone())
		if did == mover.Empty {
			if l.p.Info().Roster.State(leaving) != api.Removed {
				l.Fatalf("the device %d is not Removed", leaving)
			}
			return
		}
	}
	l.Fatalf("the device %d is not left behind %d steps", leaving, most)
}

// wantBlock demands what a block has.
func (w *world) wantBlock(id, block, c int) {
	w.Helper()
	data, err := w.p.Read(id, block, 1)
	if err != nil || !bytes.Equal(data, of(c)) {
		w.Fatalf("the block %d of %d is not of %d: %v", block, id, c, err)
	}
}

// reopened lets the bank crash, with nothing kept or all, and opens the pool, which must be sound ahead of it.
func (w *world) reopened(isKept bool) {
	w.Helper()
	if isKept {
		keepAll(w.b)
	} else {
		w.b.Crash()
	}
	if !audit.Sound(w.b) {
		w.Fatal("the pool is not sound")
	}
	p, err := pool.Open(w.b)
	must(w.T, "Open", err)
	w.p = p
	w.wantInfo()
}

// TestWhole are the document's ten examples of the whole; behind each commit what stands on the devices is what the pool says.
func TestWhole(t *testing.T) {
	w := made(t, 50, 50)
	must(t, "Create", w.p.Create(1, 100))
	if err := w.p.Create(1, 5); w.p.Info().Gen != 2 || err != error(api.ErrExists) {
		t.Fatalf("1: %v, %v", w.p.Info(), err)
	}
	w.wantInfo()

	w.write(1, 5, 'a')
	must(t, "Snapshot", w.p.Snapshot(2, 1))
	w.write(1, 5, 'b')
	w.wantBlock(2, 5, 'a')
	if w.p.Info().Data != 2 {
		t.Fatalf("2: %v", w.p.Info())
	}
	must(t, "Flush", w.p.Flush())
	if r := audited(t, w.b); r.Data != 2 || r.Mapped != 2 {
		t.Fatalf("2: %+v", r)
	}

	_, err := w.p.Read(3, 0, 1)
	for _, c := range []struct{ got, want error }{{w.p.Write(1, 99, of(1, 2)), api.ErrBlocks}, {w.p.Write(1, 0, of(1)[:100]), api.ErrLength}, {err, api.ErrVolume}} {
		if c.got != c.want {
			t.Fatalf("3: %v, not %v", c.got, c.want)
		}
	}

	w.write(1, 7, 'c')
	w.reopened(false)
	w.wantBlock(1, 7, 0)
	w.write(1, 7, 'c')
	must(t, "Flush", w.p.Flush())
	w.reopened(false)
	w.wantBlock(1, 7, 'c')

	for n, isDone := 0, false; !isDone; n++ {
		w.b.Arm(n)
		isDone = w.p.Delete(2) == nil
		w.reopened(true)
		_, err := w.p.Read(2, 5, 1)
		if err != nil && err != error(api.ErrVolume) || isDone && err == nil {
			t.Fatalf("5: %v", err)
		}
		if err != nil && !isDone {
			must(t, "Snapshot", w.p.Snapshot(2, 1))
		}
		w.wantBlock(1, 5, 'b')
	}
	w.exampleLeaves()
	w.exampleComes()
}

// exampleLeaves are the examples 6 to 9.
func (w *world) exampleLeaves() {
	w.Helper()
	must(w.T, "Evacuate", w.p.Evacuate(0))
	if err := w.p.Evacuate(1); w.p.Info().Roster.State(0) != api.Draining || err != error(api.ErrState) {
		w.Fatalf("6: %v, %v", w.p.Info(), err)
	}
	w.wantInfo()
	must(w.T, "Cancel", w.p.Cancel())
	w.wantInfo()
	if w.p.Info().Roster.State(0) != api.Active {
		w.Fatalf("9: %v", w.p.Info())
	}
	w.wantBlock(1, 5, 'b')
	w.wantBlock(1, 7, 'c')

	w.write(1, 0, 1, 2, 3, 4)
	must(w.T, "Flush", w.p.Flush())
	must(w.T, "Evacuate", w.p.Evacuate(0))
	block := w.firstOn(0)
	w.steps(mover.Planned, mover.Read)
	w.write(1, block, 'd')
	w.steps(mover.Read, mover.Wrote)
	w.write(1, block, 'e')
	w.leave()
	w.wantBlock(1, block, 'e')
	w.wantInfo()
	if w.p.Info().Roster.State(0) != api.Removed {
		w.Fatalf("7: %v", w.p.Info())
	}
	must(w.T, "Fill", w.b.Fill(0, of(77)))
	w.wantInfo()
	w.wantBlock(1, block, 'e')
	w.wantBlock(1, 7, 'c')
	w.reopened(false)
	w.wantBlock(1, block, 'e')
}

// exampleComes is the example 10.
func (w *world) exampleComes() {
	w.Helper()
	device, err := w.b.Add(30)
	must(w.T, "Add", err)
	room, free := w.p.Info().Room, w.p.Info().Free
	must(w.T, "Add", w.p.Add(device))
	if i := w.p.Info(); device != 2 || i.Room != room+28 || i.Free < free+28-2 {
		w.Fatalf("10: %v", i)
	}
	w.wantInfo()
	must(w.T, "Grow", w.b.Grow(2, 5))
	must(w.T, "Grow", w.p.Grow(2))
	if w.p.Info().Room != room+33 {
		w.Fatalf("10: %v", w.p.Info())
	}
	w.wantInfo()
}

// firstOn is the block of the volume 1 that is first of those on a device.
func (w *world) firstOn(device int) int {
	w.Helper()
	for _, addr := range w.p.Manager().Data() {
		if on, _ := space.At(addr); on == device {
			return w.p.Manager().Owners(addr)[0].Block
		}
	}
	w.Fatalf("no block is on the device %d", device)
	return 0
}

// steps demands what the next steps do.
func (w *world) steps(list ...int) {
	w.Helper()
	for _, want := range list {
		if did, err := w.p.Move(); did != want || err != nil {
			w.Fatalf("Move: %d, %v, not %d", did, err, want)
		}
	}
}

// TestP3Flight has requests in flight, of volumes and of devices, that go ahead in whatever order: each of volumes is answered as layer 14's volumes answer it in the order in which they came.
func TestP3Flight(t *testing.T) {
	moved := 0
	for seed := range 40 {
		next := numbers(seed)
		l := lives(t, 300, 280, 290)
		for range 60 {
			q := queue.New(l.p)
			var list []queue.Request
			var want []queue.Result
			for range 2 + next.below(8) {
				r := l.change(&next)
				if next.below(3) == 0 {
					r = l.device(&next)
				}
				data, err := l.now.do(r)
				list, want = append(list, r), append(want, queue.Result{Err: err, Data: data})
				_, err = q.Submit(r)
				must(t, "Submit", err)
			}
			picks := []int{next.below(50), next.below(50) - 25, next.below(9), next.below(9), next.below(9), -1, next.below(9)}
			q.Drain(picks...)
			for i, x := range q.Results() {
				if list[i].Kind <= flush && (!reflect.DeepEqual(x.Err, want[i].Err) || !bytes.Equal(x.Data, want[i].Data)) {
					t.Fatalf("%v of %v: %v, not %v", list[i], list, x.Err, want[i].Err)
				}
				if list[i].Kind == move && x.Err == nil {
					moved++
				}
			}
			l.same()
			if !audit.Sound(l.b) {
				t.Fatal("what was committed is not sound")
			}
		}
		must(t, "Flush", l.p.Flush())
		l.wantInfo()
	}
	if moved < 200 {
		t.Fatalf("%d steps of leaving a device", moved)
	}
}

// TestP5Draining demands that nothing new comes to a device that is being left, as far as it was committed, and that cancelling changes nothing of the volumes.
func TestP5Draining(t *testing.T) {
	left, cancelled := 0, 0
	for seed := range 20 {
		next := numbers(seed)
		l := lives(t, 120, 110, 130)
		for range 40 {
			l.run(l.change(&next))
		}
		l.run(queue.Request{Kind: evacuate, Id: seed % 3})
		names, err := audit.Names(l.b, seed%3)
		must(t, "Names", err)
		for range 200 {
			l.run(l.change(&next))
			if seed%4 == 0 && next.below(60) == 0 {
				l.run(queue.Request{Kind: cancel})
				l.same()
				cancelled++
				break
			}
			l.run(queue.Request{Kind: move})
			now, err := audit.Names(l.b, seed%3)
			must(t, "Names", err)
			for _, addr := range now {
				if !slices.Contains(names, addr) {
					t.Fatalf("%d is new on the device %d", addr, seed%3)
				}
			}
			if names = now; l.p.Info().Leaving < 0 {
				wantNames(t, l.b, seed%3)
				left += l.lose()
				break
			}
		}
		for range 40 {
			l.run(l.change(&next))
		}
		l.same()
	}
	if left < 8 || cancelled < 1 {
		t.Fatalf("%d devices were left, %d not", left, cancelled)
	}
}

// TestP6Bound leaves devices within layer 17's bound, with writes and crashes meanwhile.
func TestP6Bound(t *testing.T) {
	for seed := range 24 {
		next := numbers(seed)
		l := lives(t, 200, 180, 190)
		for range 60 {
			l.run(l.change(&next))
		}
		device := seed % 3
		l.run(queue.Request{Kind: evacuate, Id: device})
		data := audited(t, l.b).On[device].Data
		writes, crashes, steps := 0, 0, 0
		for l.p.Info().Leaving >= 0 {
			if seed%2 == 1 && next.below(4) == 0 && writes < 30 {
				l.run(queue.Request{Kind: write, Id: 1 + next.below(3), Block: next.below(20), Data: of(next.below(999))})
				writes++
			}
			if seed%4 > 1 && next.below(9) == 0 && crashes < 9 {
				l.b.Crash()
				p, err := pool.Open(l.b)
				must(t, "Open", err)
				l.p = p
				l.recover(nil)
				crashes++
			}
			_, err := l.p.Move()
			must(t, "Move", err)
			l.note(l.now.clone())
			steps++
			if most, err := plan.Bound(data, crashes, writes); err != nil || steps > most {
				t.Fatalf("%d steps, and %d are enough: %v", steps, most, err)
			}
		}
		l.same()
		l.lose()
	}
}

// TestP6Room leaves devices without room enough: it stops and says so, the pool may be used as before, and goes on with more room.
func TestP6Room(t *testing.T) {
	stopped := 0
	for count := 4; count <= 40; count += 3 {
		l := lives(t, 60, 20)
		l.isTight = true
		l.run(queue.Request{Kind: create, Id: 1, N: 60})
		for at := range count {
			l.run(queue.Request{Kind: write, Id: 1, Block: at, Data: of(at + 1)})
		}
		l.run(queue.Request{Kind: flush}, queue.Request{Kind: evacuate})
		if l.p.Info().Leaving < 0 {
			continue
		}
		for range enough {
			x := l.ask(queue.Request{Kind: move})
			if isRoom(x.Err) {
				stopped++
				l.same()
				l.wantKept()
				_, err := l.b.Add(80)
				must(t, "Add", err)
				l.run(queue.Request{Kind: write, Id: 1, Data: of(99)}, queue.Request{Kind: add, Id: 2})
				l.same()
				l.leaveIn(0, 1)
				break
			}
			must(t, "Move", x.Err)
			if l.note(l.now.clone()); x.N == mover.Empty {
				break
			}
		}
		l.same()
	}
	if stopped < 3 {
		t.Fatalf("it stopped %d times", stopped)
	}
}

// TestP7Comes lets the power go at each write while a device comes or grows: the room is as it was, or wholly as it was to be.
func TestP7Comes(t *testing.T) {
	for _, c := range []struct {
		r    queue.Request
		more int
	}{{queue.Request{Kind: add, Id: 3}, 28}, {queue.Request{Kind: grow, Id: 0}, 7}, {queue.Request{Kind: grow, Id: 2}, 9}} {
		for way := range keeps {
			isOld, isNew := 0, 0
			for n, went := 0, true; went; n++ {
				l := scene(t, -1)
				_, err := l.b.Add(30)
				must(t, "Add", err)
				must(t, "Grow", l.b.Grow(0, 7))
				must(t, "Grow", l.b.Grow(2, 9))
				room := l.p.Info().Room
				next := numbers(n)
				went = l.strike(c.r, n, way, &next)
				switch l.p.Info().Room {
				case room:
					isOld++
				case room + c.more:
					isNew++
				default:
					t.Fatalf("%v: the room was %d and is %d", c.r, room, l.p.Info().Room)
				}
				l.run(queue.Request{Kind: flush})
			}
			if isOld == 0 || isNew == 0 {
				t.Fatalf("%v, %s: %d and %d", c.r, keeps[way].name, isOld, isNew)
			}
		}
	}
}

// TestP7Pages demands that there are no more pages than layer 17 says, as long as no tree is too high.
func TestP7Pages(t *testing.T) {
	for seed := range 10 {
		next := numbers(seed)
		l := lives(t, 400, 400)
		for range 300 {
			l.run(l.change(&next))
			r := audited(t, l.b)
			if most, err := plan.Most(r.Mapped, r.Volumes); err != nil || r.Pages > most || r.Levels > 8 {
				t.Fatalf("%+v: at most %d pages, %v", r, most, err)
			}
		}
	}
}

// TestP8Arguments hands any numbers in: each call is answered, and what is refused changes nothing.
func TestP8Arguments(t *testing.T) {
	l := scene(t, 3)
	list := append([]int{0, 1, 2, 3, 20, 1 << 20, 1<<20 + 1}, edges...)
	for kind := create; kind <= discard; kind++ {
		for _, id := range list {
			for _, n := range list {
				r := queue.Request{Kind: kind, Id: id, N: n, Block: n, Data: of(1)[:max(n&127, 1)]}
				if _, err := l.now.clone().do(r); err != nil {
					l.run(r)
				}
				r.Block, r.N = n, 1
				if _, err := l.now.clone().do(r); err != nil {
					l.run(r)
				}
			}
		}
	}
	before := l.p.Info()
	for kind := add; kind <= evacuate; kind++ {
		for _, id := range list {
			if id < 0 || id > 2 {
				if x := l.ask(queue.Request{Kind: kind, Id: id}); x.Err == nil || x.N != 0 {
					t.Fatalf("%d of %d: %+v", kind, id, x)
				}
			}
		}
	}
	for _, kind := range []int{math.MinInt, -1, 0, move + 1, math.MaxInt} {
		if ticket, err := queue.New(l.p).Submit(queue.Request{Kind: kind}); ticket != 0 || err != error(api.ErrLine) {
			t.Fatalf("Submit of %d: %d, %v", kind, ticket, err)
		}
	}
	if now := l.p.Info(); !reflect.DeepEqual(now, before) {
		t.Fatalf("%+v, not %+v", now, before)
	}
	l.same()
	l.wantKept()
}

// TestP8Removed writes anything on a device that was left, a whole other pool too: nothing changes, unless a superblock counts there.
func TestP8Removed(t *testing.T) {
	l := scene(t, 0)
	l.leaveIn(0, 0)
	other := made(t, 60, 50, 48)
	must(t, "Create", other.p.Create(7, 9))
	other.write(7, 0, 1, 2, 3)
	for range 20 {
		must(t, "Flush", other.p.Flush())
	}
	before := audited(t, l.b)
	for sector := api.Slots; sector < 60; sector++ {
		data, err := other.b.Read(0, sector)
		must(t, "Read", err)
		must(t, "Write", l.b.Write(0, sector, data))
		must(t, "Bad", l.b.Bad(0, sector, sector%2 == 0))
	}
	wantReport(t, l.b, before)
	l.same()
	l.wantInfo()
	l.reopened(false)
	l.same()
	// A superblock of a pool in which it is no member does not count.
	var r roster.Roster
	r.List = append(entries(api.Removed, 60), entries(api.Active, 50, api.Active, 48)...)
	if got := l.p.Info().Roster; !got.Same(r) {
		t.Fatalf("the roster is %v", got)
	}
	hand{t, l.b}.superAs(0, 0, r)
	wantReport(t, l.b, before)
}

// superAs lays a superblock in both slots of a device, whether it is a member or not.
func (h hand) superAs(device, root int, r roster.Roster) {
	h.Helper()
	for slot := range api.Slots {
		sector, err := superOf(1000+slot, root, r).Bytes()
		must(h.T, "Bytes", err)
		must(h.T, "Write", h.b.Write(device, slot, sector))
	}
}

// TestP8Devices has calls of banks and pools whose devices have anything: what is answered is an error, and nothing is written.
func TestP8Devices(t *testing.T) {
	next := numbers(1)
	for range 100 {
		b := banked(t, 20, 20)
		for device := range 2 {
			must(t, "Fill", b.Fill(device, fmt.Append(nil, next.below(1<<30), next.below(1<<30))))
		}
		still(t, b, func() {
			if p, err := pool.Open(b); p != nil || err != error(api.ErrNone) {
				t.Fatalf("Open: %v", err)
			}
		})
		wantCode(t, b, api.ErrNone)
	}
}
