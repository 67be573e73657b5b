package locks_test

import (
	"slices"
	"testing"

	"portage/locks"
)

// clashing is whether a span of one list clashes with one of the other.
func clashing(a, b []locks.Span) bool {
	for _, s := range a {
		for _, o := range b {
			if s.Clash(o) {
				return true
			}
		}
	}
	return false
}

// filled is a table with these entries, numbered from 1 on.
func filled(t *testing.T, entries [][]locks.Span) world {
	t.Helper()
	w := newWorld(t)
	for i, spans := range entries {
		w.add(i+1, spans...)
	}
	return w
}

// wantSound demands that the first entry may go ahead, and that those that may do not clash with one another; it is which those are.
func (w world) wantSound(entries [][]locks.Span) []int {
	w.Helper()
	waiting, ready := w.Waiting(), w.Ready()
	if len(waiting) > 0 && (len(ready) == 0 || ready[0] != waiting[0] || !w.May(waiting[0])) {
		w.Fatalf("%v: Waiting: %v, Ready: %v", entries, waiting, ready)
	}
	for i, one := range ready {
		for _, other := range ready[i+1:] {
			if clashing(entries[one-1], entries[other-1]) {
				w.Fatalf("%v: %d and %d clash, and both are ready", entries, one, other)
			}
		}
	}
	return ready
}

// wantOrder demands that all entries were done, clashing ones in the order in which they came.
func wantOrder(t *testing.T, entries [][]locks.Span, order []int) {
	t.Helper()
	if len(order) != len(entries) {
		t.Fatalf("%v: just %v were done", entries, order)
	}
	for i, one := range order {
		for _, later := range order[i+1:] {
			if later < one && clashing(entries[one-1], entries[later-1]) {
				t.Fatalf("%v: done in the order %v", entries, order)
			}
		}
	}
}

// wantAllOrders ends the entries in each order that there is: whichever of those that may go ahead is done next.
func wantAllOrders(t *testing.T, entries [][]locks.Span) {
	t.Helper()
	var from func(done []int)
	from = func(done []int) {
		w := filled(t, entries)
		w.done(done...)
		ready := w.wantSound(entries)
		if len(ready) == 0 {
			w.wantWaiting()
			wantOrder(t, entries, done)
		}
		for _, number := range ready {
			from(append(slices.Clone(done), number))
		}
	}
	from(nil)
}

func TestP15_3AllOrders(t *testing.T) {
	kinds := [][]locks.Span{
		nil,
		{write(1, 0, 2)},
		{read(1, 1, 2)},
		{write(1, 2, 1), read(2, 0, 1)},
		{write(2, 0, 0), write(2, 0, 1)},
		{read(0, 0, 0)},
		{write(0, 7, 7)},
	}
	for _, a := range kinds {
		for _, b := range kinds {
			for _, c := range kinds {
				for _, d := range kinds {
					wantAllOrders(t, [][]locks.Span{a, b, c, d})
				}
			}
		}
	}
}

// TestP15_3Long adds entries and ends any of those that may go ahead, in turn, and ends all at last.
func TestP15_3Long(t *testing.T) {
	for seed := range 20 {
		n := &numbers{state: uint64(seed)}
		w := newWorld(t)
		var entries [][]locks.Span
		var order []int
		for len(entries) < 120 || len(order) < len(entries) {
			ready := w.wantSound(entries)
			if len(entries) < 120 && (len(ready) == 0 || n.below(5) < 3) {
				var spans []locks.Span
				for range n.below(3) {
					spans = append(spans, small()[n.below(len(small()))])
				}
				entries = append(entries, spans)
				w.add(len(entries), spans...)
				continue
			}
			number := ready[n.below(len(ready))]
			w.done(number)
			order = append(order, number)
		}
		w.wantWaiting()
		wantOrder(t, entries, order)
	}
}
