package queue_test

import (
	"math"
	"reflect"
	"slices"
	"testing"

	"portage/api"
	"portage/fault"
	"portage/mover"
	"portage/queue"
	"portage/space"
)

// TestP20_2Picks has picks within the count, past it and below 0, for each count of requests that may go ahead. Those that may not stand between them.
func TestP20_2Picks(t *testing.T) {
	for _, c := range []struct{ pick, count, place int }{
		{0, 1, 0}, {1, 1, 0}, {-1, 1, 0}, {-7, 1, 0}, {math.MaxInt, 1, 0}, {math.MinInt, 1, 0},
		{0, 2, 0}, {1, 2, 1}, {2, 2, 0}, {3, 2, 1}, {-1, 2, 1}, {-2, 2, 0}, {-3, 2, 1}, {math.MaxInt, 2, 1}, {math.MinInt, 2, 0}, {math.MinInt + 1, 2, 1},
		{0, 3, 0}, {1, 3, 1}, {2, 3, 2}, {3, 3, 0}, {4, 3, 1}, {302, 3, 2}, {-1, 3, 2}, {-2, 3, 1}, {-3, 3, 0}, {-4, 3, 2}, {-300, 3, 0},
		// 2^63 is 2 modulo 3, and 8 modulo 10.
		{math.MaxInt, 3, 1}, {math.MinInt, 3, 1}, {math.MaxInt, 10, 7}, {math.MinInt, 10, 2}, {math.MinInt + 1, 10, 3}, {-1, 10, 9}, {-10, 10, 0}, {-11, 10, 9}, {10, 10, 0}, {19, 10, 9},
	} {
		w := scene(t)
		var ready []int
		for i := range c.count {
			w.submit(writes(1, i, 40+i), reads(1, i, 1))
			ready = append(ready, 2*i+1)
		}
		w.wantReady(ready...)
		w.step(c.pick, ready[c.place])
		w.wantWaiting(slices.DeleteFunc(span(1, 2*c.count), func(ticket int) bool { return ticket == ready[c.place] })...)
	}
}

// TestP20_2AllPicks goes by each pick from one below the least count to one above the greatest.
func TestP20_2AllPicks(t *testing.T) {
	for count := 1; count <= 6; count++ {
		for pick := -14; pick <= 14; pick++ {
			w := scene(t)
			for range count {
				w.submit(reads(2, 3, 1))
			}
			w.step(pick, (pick+14*count)%count+1)
		}
	}
}

func TestP20_2Idle(t *testing.T) {
	w := scene(t)
	w.wantIdle()
	for range 3 {
		w.submit(reads(1, 0, 1), writes(1, 0, 7), flushes(), moves())
		w.q.Drain()
		w.wantIdle()
	}
	// What is refused is done all the same.
	w.submit(reads(9, 0, 1))
	w.step(5, 13)
	w.wantIdle()
}

// twins are two worlds that are alike.
func twins(t *testing.T) (*world, *world) {
	t.Helper()
	return scene(t), scene(t)
}

// wantStep lets a request be done by the queue of one world and by a call in the other one: both tell the same, then and there.
func wantStep(t *testing.T, w, other *world, r queue.Request) queue.Result {
	t.Helper()
	ticket, err := w.q.Submit(r)
	must(t, "Submit", err)
	x, err := w.q.Step(0)
	must(t, "Step", err)
	want := direct(other.p, r)
	want.Ticket = ticket
	wantResult(t, "Step", x, want)
	wantSame(t, "Step", w.tells(), other.tells())
	w.wantWaiting()
	return x
}

// TestP20_2Calls does a request of each kind: its call is made, once, and its result has what that told and nothing else.
func TestP20_2Calls(t *testing.T) {
	w, other := twins(t)
	for _, r := range samples() {
		before := w.tells()
		x := wantStep(t, w, other, r)
		if x.Err != nil || (len(x.Data) > 0) != (r.Kind == read) || (x.N != 0) != (r.Kind == move) {
			t.Fatalf("%v: %v", r, x)
		}
		if isChanged := !reflect.DeepEqual(w.tells(), before); isChanged != (r.Kind != read) {
			t.Fatalf("%v: something is changed: %v", r, isChanged)
		}
	}
	i := w.p.Info()
	if len(i.Volumes) != 4 || i.Volumes[0].Size != 30 || len(i.Roster.List) != 3 || i.Roster.List[1].Size != 85 || i.Leaving != -1 {
		t.Fatalf("Info: %+v", i)
	}
}

// TestP20_2Unused hands in numbers and Data that a kind's call is not handed.
func TestP20_2Unused(t *testing.T) {
	w, other := twins(t)
	for i, r := range samples() {
		plain := r
		if !slices.Contains([]int{read, write, discard}, r.Kind) {
			r.Block = edges[i]
		}
		if slices.Contains([]int{remove, write, flush, add, grow, evacuate, cancel, move}, r.Kind) {
			r.N = edges[i]
		}
		if slices.Contains([]int{flush, cancel, move}, r.Kind) {
			r.Id = edges[i]
		}
		if r.Kind != write {
			r.Data = of(99)
		}
		w.submit(r)
		x := w.step(0, i+1)
		if want := direct(other.p, plain); !isSame(x, want) || x.Err != nil {
			t.Fatalf("%v: %v, not %v", r, x, want)
		}
		wantSame(t, "Step", w.tells(), other.tells())
	}
}

// TestP20_2Moves leaves a device by requests: each result has what the step did.
func TestP20_2Moves(t *testing.T) {
	w, other := twins(t)
	wantStep(t, w, other, evacuates(0))
	seen := map[int]bool{}
	for !seen[mover.Empty] {
		x := wantStep(t, w, other, moves())
		if x.Err != nil || len(x.Data) > 0 || x.N < mover.Planned || x.N > mover.Empty {
			t.Fatalf("Move: %v", x)
		}
		seen[x.N] = true
	}
	for _, did := range []int{mover.Planned, mover.Read, mover.Wrote, mover.Swapped, mover.Empty} {
		if !seen[did] {
			t.Fatalf("the steps did %v", seen)
		}
	}
	if w.p.Info().Roster.State(0) != api.Removed {
		t.Fatalf("the device is not left: %v", w.p.Info())
	}
	if x := wantStep(t, w, other, moves()); x.N != 0 || x.Err != error(api.ErrIdle) {
		t.Fatalf("Move: %v", x)
	}
}

// TestP20_2Refused has requests that the pool refuses: the result has its error, and nothing else.
func TestP20_2Refused(t *testing.T) {
	w, other := twins(t)
	refuse := func(r queue.Request, code api.Code) {
		t.Helper()
		x := wantStep(t, w, other, r)
		wantCode(t, "a request", x.Err, code)
		if len(x.Data) > 0 || x.N != 0 {
			t.Fatalf("%v: %v", r, x)
		}
	}
	for _, n := range edges {
		if n < 1 || n > 1<<20 {
			for _, r := range []queue.Request{creates(n, 1), snapshots(n, 1), removes(n), resizes(n, 1), reads(n, 0, 1), writes(n, 0, 1), discards(n, 0, 1)} {
				refuse(r, api.ErrVolume)
			}
			refuse(creates(9, n), api.ErrBlocks)
			refuse(resizes(1, n), api.ErrBlocks)
			refuse(discards(1, 0, n), api.ErrBlocks)
		}
		if n < 0 || n > 19 {
			refuse(reads(1, n, 1), api.ErrBlocks)
			refuse(writes(1, n, 1), api.ErrBlocks)
			refuse(discards(1, n, 1), api.ErrBlocks)
			refuse(grows(n), api.ErrDevice)
			refuse(adds(n), api.ErrDevice)
		}
		if n < 1 || n > 8 {
			refuse(reads(1, 0, n), api.ErrBlocks)
		}
	}
	for _, id := range []int{4, 9, 1 << 20} {
		for _, r := range []queue.Request{snapshots(5, id), removes(id), resizes(id, 1), reads(id, 0, 1), writes(id, 0, 1), discards(id, 0, 1)} {
			refuse(r, api.ErrVolume)
		}
	}
	refuse(creates(1, 5), api.ErrExists)
	refuse(snapshots(2, 1), api.ErrExists)
	for _, size := range []int{0, 1, 127, 129, 192, 1025, 1152} {
		refuse(lays(1, 0, of(span(1, 9)...)[:size]), api.ErrLength)
	}
	refuse(writes(1, 19, 1, 2), api.ErrBlocks)
	refuse(cancels(), api.ErrIdle)
	refuse(moves(), api.ErrIdle)
	refuse(grows(0), api.ErrRange)
	wantStep(t, w, other, evacuates(0))
	refuse(evacuates(0), api.ErrState)
	refuse(evacuates(1), api.ErrState)
	wantStep(t, w, other, adds(2))
	refuse(evacuates(1), api.ErrBusy)
	for id := 4; id <= api.MaxVolumes; id++ {
		if x := wantStep(t, w, other, creates(id, 1)); x.Err != nil {
			t.Fatalf("Create: %v", x)
		}
	}
	refuse(creates(99, 1), api.ErrMany)
	refuse(snapshots(99, 1), api.ErrMany)
	for n := 3; n <= api.MaxDevices; n++ {
		for _, one := range []*world{w, other} {
			one.b.Add(10 - n)
		}
		if n == api.MaxDevices {
			refuse(adds(n), api.ErrMany)
		} else if x := wantStep(t, w, other, adds(n)); x.Err != nil {
			t.Fatalf("Add: %v", x)
		}
	}
	w.wantIdle()
}

// TestP20_2NoRoom has requests that are refused for want of room, and done again when there is some.
func TestP20_2NoRoom(t *testing.T) {
	w, other := made(t, 20, 20), made(t, 20, 20)
	for _, r := range []queue.Request{creates(1, 100), writes(1, 0, span(1, 8)...), flushes(), evacuates(0)} {
		if x := wantStep(t, w, other, r); x.Err != nil {
			t.Fatalf("%v: %v", r, x)
		}
	}
	for block := 8; ; block++ {
		x := wantStep(t, w, other, writes(1, block, block+1))
		if x.Err == error(api.ErrFull) {
			break
		}
		if x.Err != nil || block > 40 {
			t.Fatalf("Write of %d: %v", block, x)
		}
	}
	if x := wantStep(t, w, other, moves()); x.Err != error(api.ErrSpace) || x.N != 0 {
		t.Fatalf("Move: %v", x)
	}
	for _, one := range []*world{w, other} {
		one.b.Add(60)
		one.b.Add(2)
	}
	wantStep(t, w, other, adds(2))
	if x := wantStep(t, w, other, adds(3)); x.Err != error(api.ErrRange) {
		t.Fatalf("Add: %v", x)
	}
	if x := wantStep(t, w, other, moves()); x.Err != nil || x.N != mover.Planned {
		t.Fatalf("Move: %v", x)
	}
}

// TestP20_2Faults has what cannot be read, and the power that goes: results have the faults that the pool told.
func TestP20_2Faults(t *testing.T) {
	w, other := twins(t)
	device, sector := space.At(w.p.Manager().Map(2, 5))
	for _, one := range []*world{w, other} {
		must(t, "Bad", one.b.Bad(device, sector, true))
	}
	x := wantStep(t, w, other, reads(2, 4, 3))
	if want := fault.Wrap("read", device, sector, api.ErrRead); !reflect.DeepEqual(x.Err, want) || len(x.Data) > 0 {
		t.Fatalf("Read: %v, not %v", x, want)
	}
	for _, one := range []*world{w, other} {
		one.b.Arm(1)
	}
	w.submit(flushes(), reads(2, 0, 1), writes(1, 0, 5), moves(), creates(9, 9), reads(-1, 0, 1))
	list := w.q.Drain(0, 3, 2, 1)
	first := direct(other.p, flushes())
	if first.Ticket = 2; first.Err == nil {
		t.Fatal("the power did not go")
	}
	wantResult(t, "Drain", list[0], first)
	if len(list) != 6 {
		t.Fatalf("Drain: %v", list)
	}
	for _, x := range list[1:] {
		wantResult(t, "Drain", x, queue.Result{Ticket: x.Ticket, Err: api.ErrDown})
	}
	w.wantWaiting()
}

// TestP20_2Once demands that a step does just one request, and no other call does any.
func TestP20_2Once(t *testing.T) {
	w, other := twins(t)
	list := []queue.Request{writes(1, 9, 5), writes(1, 10, 6), writes(2, 9, 7), reads(1, 9, 1), evacuates(0)}
	w.submit(list...)
	for _, at := range []int{2, 4, 0, 1, 3} {
		ready := w.q.Ready()
		w.step(slices.Index(ready, at+1), at+1)
		direct(other.p, list[at])
		wantSame(t, "Step", w.tells(), other.tells())
		w.q.Ready()
		w.q.Waiting()
		w.q.Results()
		w.q.Result(at + 1)
		w.q.Result(at + 2)
		wantSame(t, "asking", w.tells(), other.tells())
	}
}

// drained is the order in which requests are done that Drain is handed picks for.
func drained(t *testing.T, picks ...int) []int {
	t.Helper()
	w, other := twins(t)
	list := []queue.Request{writes(1, 0, 41), reads(1, 0, 1), reads(2, 0, 1), removes(3), reads(1, 0, 2), flushes()}
	w.submit(list...)
	results := w.q.Drain(picks...)
	for _, x := range results {
		want := direct(other.p, list[x.Ticket-1])
		want.Ticket = x.Ticket
		wantResult(t, "Drain", x, want)
	}
	wantSame(t, "Drain", w.tells(), other.tells())
	if got := w.done(); !slices.Equal(got, span(1, 6)) {
		t.Fatalf("Results: %v", got)
	}
	w.wantIdle()
	return tickets(results)
}

// TestP20_2Drain has no picks, fewer than there are steps, as many and more.
func TestP20_2Drain(t *testing.T) {
	for _, c := range []struct{ picks, order []int }{
		{nil, []int{1, 2, 3, 4, 5, 6}},
		{[]int{0}, []int{1, 2, 3, 4, 5, 6}},
		{[]int{1}, []int{3, 1, 2, 4, 5, 6}},
		{[]int{-1}, []int{3, 1, 2, 4, 5, 6}},
		{[]int{0, 1}, []int{1, 3, 2, 4, 5, 6}},
		{[]int{5, 7, 9, 11, -1}, []int{3, 1, 2, 4, 6, 5}},
		{[]int{0, 1, 0, 0, 1, 0}, []int{1, 3, 2, 4, 6, 5}},
		{[]int{0, 1, 0, 0, 1, 0, 7, 8, 9, -1}, []int{1, 3, 2, 4, 6, 5}},
		{[]int{math.MinInt, math.MaxInt, math.MinInt, math.MaxInt, math.MaxInt}, []int{1, 3, 2, 4, 6, 5}},
	} {
		if order := drained(t, c.picks...); !slices.Equal(order, c.order) {
			t.Fatalf("Drain(%v): %v, not %v", c.picks, order, c.order)
		}
	}
}

// TestP20_2DrainBehindSteps lets Drain come behind steps: it tells just what it did itself, and picks begin anew.
func TestP20_2DrainBehindSteps(t *testing.T) {
	w := scene(t)
	w.submit(reads(1, 0, 1), reads(1, 1, 1), reads(1, 2, 1), reads(1, 3, 1))
	w.step(1, 2)
	if order := tickets(w.q.Drain(1, 1)); !slices.Equal(order, []int{3, 4, 1}) {
		t.Fatalf("Drain: %v", order)
	}
	if list := w.q.Drain(1, 1); len(list) > 0 {
		t.Fatalf("Drain: %v", list)
	}
	w.submit(reads(1, 0, 1), reads(1, 1, 1))
	if order := tickets(w.q.Drain(-1)); !slices.Equal(order, []int{6, 5}) {
		t.Fatalf("Drain: %v", order)
	}
	if got := w.done(); !slices.Equal(got, span(1, 6)) {
		t.Fatalf("Results: %v", got)
	}
}

// TestP20_2DrainEmpty drains a queue that never had a request, with picks and without.
func TestP20_2DrainEmpty(t *testing.T) {
	w := scene(t)
	for _, picks := range [][]int{nil, {}, {0}, edges} {
		if list := w.q.Drain(picks...); len(list) > 0 {
			t.Fatalf("Drain: %v", list)
		}
	}
	w.submit(reads(1, 0, 1))
}
