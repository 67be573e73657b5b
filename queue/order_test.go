package queue_test

import (
	"errors"
	"reflect"
	"slices"
	"testing"

	"portage/api"
	"portage/mover"
	"portage/queue"
)

// inOrder does requests one by one, as calls, and tells their results.
func inOrder(w *world, list []queue.Request) []queue.Result {
	var results []queue.Result
	for i, r := range list {
		x := direct(w.p, r)
		x.Ticket = i + 1
		results = append(results, x)
	}
	return results
}

// wantAlike demands that each result of the kinds 1 to 8 is the same as when all are done in their order, and that the volumes are.
func (w *world) wantAlike(list []queue.Request, want []queue.Result, other *world) {
	w.Helper()
	got := w.q.Results()
	if len(got) != len(list) {
		w.Fatalf("%d of %d requests were done", len(got), len(list))
	}
	for i, r := range list {
		if r.Kind <= flush {
			wantResult(w.T, "Results", got[i], want[i])
		}
		if errors.Is(got[i].Err, api.ErrFull) || errors.Is(got[i].Err, api.ErrSpace) {
			w.Fatalf("%v: %v: there is no room", r, got[i])
		}
	}
	if now, want := w.volumes(), other.volumes(); !reflect.DeepEqual(now, want) {
		w.Fatalf("the volumes are %v, not %v", now, want)
	}
}

// TestP20_4AllOrders has all sequences of a few requests, and does each in all orders that there are.
func TestP20_4AllOrders(t *testing.T) {
	kinds := []queue.Request{
		writes(1, 0, 41, 42), reads(1, 1, 2), discards(1, 1, 3), resizes(1, 2), writes(2, 1, 43), reads(3, 0, 2), snapshots(4, 1), removes(1), creates(1, 9), flushes(), evacuates(0), moves(), reads(1, -1, 1),
	}
	orders, most := 0, 0
	for _, a := range kinds {
		for _, b := range kinds {
			for _, c := range kinds {
				list := []queue.Request{a, b, c}
				other := tiny(t)
				want := inOrder(other, list)
				count := 0
				var from func(picks []int)
				from = func(picks []int) {
					w := tiny(t)
					w.submit(list...)
					for _, pick := range picks {
						_, err := w.q.Step(pick)
						must(t, "Step", err)
					}
					ready := w.q.Ready()
					if len(ready) == 0 {
						w.wantAlike(list, want, other)
						count++
					}
					for pick := range ready {
						from(append(slices.Clone(picks), pick))
					}
				}
				from(nil)
				orders += count
				most = max(most, count)
			}
		}
	}
	if orders <= len(kinds)*len(kinds)*len(kinds) || most != 6 {
		t.Fatalf("%d orders, %d at most", orders, most)
	}
}

// tiny has the volumes 1 and 2, of a few blocks, and a snapshot 3 of the first one.
func tiny(t *testing.T) *world {
	t.Helper()
	w := made(t, 50, 50)
	must(t, "Create", w.p.Create(1, 5))
	must(t, "Write", w.p.Write(1, 0, of(1, 2, 3)))
	must(t, "Create", w.p.Create(2, 3))
	must(t, "Snapshot", w.p.Snapshot(3, 1))
	return w
}

// wide is a pool that has room for all that these tests do even on the device 4 alone. Two more devices may be added, and two may grow.
func wide(t *testing.T) *world {
	t.Helper()
	w := made(t, 600, 600, 600, 600, 600)
	for _, size := range []int{60, 40} {
		_, err := w.b.Add(size)
		must(t, "Add", err)
	}
	must(t, "Grow", w.b.Grow(0, 7))
	must(t, "Grow", w.b.Grow(2, 9))
	return w
}

// any is a request that leaps about, some of which are refused.
func (x *numbers) any() queue.Request {
	id, from, at, count := 1+x.below(4), 1+x.below(4), x.below(30), 1+x.below(5)
	if x.below(25) == 0 {
		id = []int{0, -1, 9, 1 << 21}[x.below(4)]
	}
	if x.below(25) == 0 {
		at = []int{-1, 99, 1 << 40}[x.below(3)]
	}
	if x.below(25) == 0 {
		count = []int{-1, 0, 9, 1<<30 + 1}[x.below(4)]
	}
	switch kind := x.below(100); {
	case kind < 5:
		return creates(id, 20+x.below(15))
	case kind < 9:
		return snapshots(id, from)
	case kind < 11:
		return removes(id)
	case kind < 15:
		return resizes(id, 15+x.below(20))
	case kind < 19:
		return flushes()
	case kind < 40:
		return reads(id, at, count)
	case kind < 60:
		data := of(span(1+x.below(60000), max(0, min(count, 9)))...)
		if x.below(20) == 0 {
			data = append(data, data[:min(len(data), 64)]...)
		}
		return lays(id, at, data)
	case kind < 68:
		return discards(id, at, count)
	case kind < 69:
		return adds(5 + x.below(2))
	case kind < 70:
		return grows(x.below(5))
	case kind < 73:
		return evacuates(x.below(4))
	case kind < 74:
		return cancels()
	}
	return moves()
}

// flight is requests from which devices are left, with volumes ahead of all others.
func flight(next *numbers, count int) []queue.Request {
	list := []queue.Request{creates(1, 30), creates(2, 25), writes(1, 0, span(1, 8)...), writes(2, 3, span(9, 8)...), snapshots(3, 1), evacuates(next.below(4))}
	for range count {
		list = append(list, next.any())
	}
	return list
}

// fly lets requests come and be done in turn, picked as one likes, till all are done. It tells how many were done ahead of one that came earlier.
func (w *world) fly(list []queue.Request, next *numbers, pick func() int) int {
	w.Helper()
	past := 0
	for at := 0; at < len(list) || len(w.q.Waiting()) > 0; {
		if at < len(list) && (len(w.q.Waiting()) == 0 || next.below(20) < 11) {
			w.submit(list[at])
			at++
			continue
		}
		first := w.q.Waiting()[0]
		x, err := w.q.Step(pick())
		must(w.T, "Step", err)
		if x.Ticket != first {
			past++
		}
	}
	return past
}

// TestP20_4Long has long flights, with each of several ways to pick, against another pool to which the same is done in order, and a third one in which nothing is done to devices.
func TestP20_4Long(t *testing.T) {
	past, left, moved := 0, 0, 0
	for seed := range 40 {
		next := numbers(seed)
		list := flight(&next, 200)
		other, still := wide(t), wide(t)
		want := inOrder(other, list)
		for i, r := range list {
			if r.Kind <= flush && !isSame(direct(still.p, r), want[i]) {
				t.Fatalf("%v is answered otherwise while devices are left", r)
			}
		}
		for _, pick := range []func() int{
			func() int { return 0 },
			func() int { return -1 },
			func() int { return 1 },
			func() int { return next.below(1000) - 500 },
			func() int { return next.below(7) },
		} {
			w := wide(t)
			past += w.fly(list, &next, pick)
			w.wantAlike(list, want, other)
			w.wantAlike(list, want, still)
			for _, x := range w.q.Results() {
				if list[x.Ticket-1].Kind == move && x.N > 0 {
					moved++
				}
				if x.N == mover.Empty {
					left++
				}
			}
		}
	}
	if past < 500 || left < 30 || moved < 1000 {
		t.Fatalf("%d requests went past others, %d devices were left by %d steps", past, left, moved)
	}
}

// TestP20_4Drained submits all requests ahead of the first step, and drains the queue with any picks.
func TestP20_4Drained(t *testing.T) {
	for seed := range 12 {
		next := numbers(100 + seed)
		list := flight(&next, 120)
		other := wide(t)
		want := inOrder(other, list)
		for turn := range 4 {
			w := wide(t)
			w.submit(list...)
			var picks []int
			for range len(list) * turn / 2 {
				picks = append(picks, next.below(1<<30)-1<<29)
			}
			if results := w.q.Drain(picks...); len(results) != len(list) {
				t.Fatalf("Drain: %d results", len(results))
			}
			w.wantAlike(list, want, other)
		}
	}
}

// TestP20_4DevicesPastVolumes lets a device be left wholly while requests of volumes wait, and the other way round.
func TestP20_4DevicesPastVolumes(t *testing.T) {
	list := []queue.Request{evacuates(0)}
	for i := range 60 {
		list = append(list, moves(), writes(1+i%2, i%18, 100+i, 200+i), reads(1+i%2, (i+5)%18, 2), discards(3, i%18, 1), reads(3, i%19, 1))
	}
	other := scene(t)
	want := inOrder(other, list)
	for _, isDevicesFirst := range []bool{true, false} {
		w := scene(t)
		w.submit(list...)
		steps := 0
		for range list {
			ready := w.q.Ready()
			pick := slices.IndexFunc(ready, func(ticket int) bool { return (list[ticket-1].Kind > flush) == isDevicesFirst })
			steps += min(1, max(0, pick))
			_, err := w.q.Step(max(0, pick))
			must(t, "Step", err)
		}
		w.wantIdle()
		w.wantAlike(list, want, other)
		if w.p.Info().Roster.State(0) != api.Removed || steps < 50 {
			t.Fatalf("%d steps: %v", steps, w.p.Info())
		}
	}
}
