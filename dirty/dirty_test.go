package dirty_test

import (
	"errors"
	"math"
	"slices"
	"testing"

	"portage/api"
	"portage/dirty"
	"portage/fault"
)

// below are numbers that are no addresses.
var below = []int{0, -1, -2, -1000, math.MinInt32, math.MinInt + 1, math.MinInt}

// strangers are numbers that no entry of these tests ever has, but where a test says so.
var strangers = append([]int{1 << 20, math.MaxInt32, math.MaxInt - 1, math.MaxInt}, below...)

// noStates are numbers that are no states.
var noStates = []int{-1, 3, 4, -2, 256, 1 << 32, math.MaxInt32, math.MinInt32, math.MaxInt, math.MinInt}

// states are all states of an entry.
var states = []int{dirty.Planned, dirty.Read, dirty.Copied}

// world is a log under test.
type world struct {
	*testing.T
	*dirty.Log
}

func newWorld(t *testing.T) world { return world{T: t, Log: dirty.New()} }

// entry is an entry with its state.
func entry(from, to, state int) dirty.Entry { return dirty.Entry{From: from, To: to, State: state} }

// with is a log with these entries, added in this order, each turned till it has its state.
func with(t *testing.T, entries ...dirty.Entry) world {
	t.Helper()
	w := newWorld(t)
	for _, e := range entries {
		w.add(e.From, e.To)
		w.turnUpTo(e.From, e.State)
	}
	return w
}

func (w world) add(from, to int) {
	w.Helper()
	if err := w.Add(from, to); err != nil {
		w.Fatalf("Add(%d, %d): %v", from, to, err)
	}
}

func (w world) turn(from, state int) {
	w.Helper()
	if err := w.Turn(from, state); err != nil {
		w.Fatalf("Turn(%d, %d): %v", from, state, err)
	}
}

// turnUpTo lets an entry that is Planned go on to a state.
func (w world) turnUpTo(from, state int) {
	w.Helper()
	for next := dirty.Read; next <= state; next++ {
		w.turn(from, next)
	}
}

// wantError demands that err is the bare code ErrRegion.
func (w world) wantError(what string, err error) {
	w.Helper()
	var f *fault.Fault
	if err != error(api.ErrRegion) || !errors.Is(err, api.ErrRegion) || errors.As(err, &f) {
		w.Fatalf("%s: %v, not %v", what, err, api.ErrRegion)
	}
}

// wantAddress demands what a call that tells an address told.
func (w world) wantAddress(what string, got int, ok bool, want int, is bool) {
	w.Helper()
	if got != want || ok != is {
		w.Fatalf("%s: %d, %v, not %d, %v", what, got, ok, want, is)
	}
}

// wantWrote demands what is told when something is written at an address.
func (w world) wantWrote(addr, mirror int, is bool) {
	w.Helper()
	got, ok := w.Wrote(addr)
	w.wantAddress("Wrote", got, ok, mirror, is)
}

func (w world) wantGone(addr, to int, is bool) {
	w.Helper()
	got, ok := w.Gone(addr)
	w.wantAddress("Gone", got, ok, to, is)
}

func (w world) wantNext(want dirty.Entry, is bool) {
	w.Helper()
	if got, ok := w.Next(); got != want || ok != is {
		w.Fatalf("Next: %v, %v, not %v, %v", got, ok, want, is)
	}
}

func (w world) wantFind(from int, want dirty.Entry, is bool) {
	if got, ok := w.Find(from); got != want || ok != is {
		// Helper is dear, and this is asked more often than all else.
		w.Helper()
		w.Fatalf("Find(%d): %v, %v, not %v, %v", from, got, ok, want, is)
	}
}

func (w world) wantSpoilt(want int) {
	w.Helper()
	if got := w.Spoilt(); got != want {
		w.Fatalf("Spoilt: %d, not %d", got, want)
	}
}

// wantEntries demands that a log has just these entries, which rise, whichever way it is asked.
func (w world) wantEntries(entries ...dirty.Entry) {
	w.Helper()
	if got := w.List(); !slices.Equal(got, entries) {
		w.Fatalf("List: %v, not %v", got, entries)
	}
	for _, e := range entries {
		w.wantFind(e.From, e, true)
		w.wantFind(e.To, dirty.Entry{}, false)
	}
	for _, addr := range below {
		w.wantFind(addr, dirty.Entry{}, false)
	}
	next, is := nextOf(entries)
	w.wantNext(next, is)
}

// nextOf is the first entry of a list that is Read, else the first one that is Planned.
func nextOf(entries []dirty.Entry) (dirty.Entry, bool) {
	for _, state := range []int{dirty.Read, dirty.Planned} {
		at := slices.IndexFunc(entries, func(e dirty.Entry) bool { return e.State == state })
		if at >= 0 {
			return entries[at], true
		}
	}
	return dirty.Entry{}, false
}

// wantAddRefused demands that an Add is refused, and changes nothing.
func (w world) wantAddRefused(from, to int) {
	w.Helper()
	entries, spoilt := w.List(), w.Spoilt()
	w.wantError("Add", w.Add(from, to))
	w.wantEntries(entries...)
	w.wantSpoilt(spoilt)
}

// wantTurnRefused demands that a Turn is refused, and changes nothing.
func (w world) wantTurnRefused(from, state int) {
	w.Helper()
	entries, spoilt := w.List(), w.Spoilt()
	w.wantError("Turn", w.Turn(from, state))
	w.wantEntries(entries...)
	w.wantSpoilt(spoilt)
}

// wantNone demands that an address is no From: all calls that name it tell that there is nothing, and change nothing.
func (w world) wantNone(addr int) {
	w.Helper()
	entries, spoilt := w.List(), w.Spoilt()
	w.wantFind(addr, dirty.Entry{}, false)
	w.wantWrote(addr, 0, false)
	w.wantGone(addr, 0, false)
	for _, state := range append(slices.Clone(states), noStates...) {
		w.wantError("Turn", w.Turn(addr, state))
	}
	w.wantEntries(entries...)
	w.wantSpoilt(spoilt)
}

func TestP16Example(t *testing.T) {
	w := newWorld(t)
	w.add(5, 9)
	w.turn(5, dirty.Read)
	w.wantWrote(5, 0, false)
	w.wantEntries(entry(5, 9, dirty.Planned))
	w.turn(5, dirty.Read)
	w.turn(5, dirty.Copied)
	w.wantWrote(5, 9, true)
}

// TestP16States holds the states against their numbers.
func TestP16States(t *testing.T) {
	if !slices.Equal(states, []int{0, 1, 2}) {
		t.Fatalf("Planned, Read, Copied: %v", states)
	}
}

func TestP16_1New(t *testing.T) {
	w := newWorld(t)
	w.wantEntries()
	w.wantSpoilt(0)
	for _, addr := range append([]int{1, 2, 5}, strangers...) {
		w.wantNone(addr)
	}
	if all := w.Clear(); len(all) != 0 {
		t.Fatalf("Clear: %v", all)
	}
	w.wantEntries()
}

func TestP16_1LogsApart(t *testing.T) {
	one, other := newWorld(t), newWorld(t)
	one.add(5, 9)
	one.turn(5, dirty.Read)
	other.wantEntries()
	other.add(9, 5)
	one.wantWrote(5, 0, false)
	other.wantSpoilt(0)
	other.wantEntries(entry(9, 5, dirty.Planned))
	one.Clear()
	other.wantEntries(entry(9, 5, dirty.Planned))
	one.wantSpoilt(1)
}

func TestP16_1Add(t *testing.T) {
	w := newWorld(t)
	w.add(5, 9)
	w.wantEntries(entry(5, 9, dirty.Planned))
	w.add(3, 8)
	w.wantEntries(entry(3, 8, dirty.Planned), entry(5, 9, dirty.Planned))
	w.add(4, 1)
	w.wantEntries(entry(3, 8, dirty.Planned), entry(4, 1, dirty.Planned), entry(5, 9, dirty.Planned))
	w.wantSpoilt(0)
}

// TestP16_1AddLeavesOthers adds ahead of, between and behind entries, which keep their states.
func TestP16_1AddLeavesOthers(t *testing.T) {
	read, copied := entry(10, 11, dirty.Read), entry(20, 21, dirty.Copied)
	for _, from := range []int{1, 9, 12, 19, 22, math.MaxInt} {
		w := with(t, read, copied)
		w.add(from, 500)
		want := []dirty.Entry{read, copied, entry(from, 500, dirty.Planned)}
		slices.SortFunc(want, func(a, b dirty.Entry) int { return a.From - b.From })
		w.wantEntries(want...)
	}
}

func TestP16_1AddOfEnds(t *testing.T) {
	ends := []int{1, 2, 3, api.MaxSectors, api.MaxDevices*api.MaxSectors - 1, api.MaxDevices * api.MaxSectors, math.MaxInt32, math.MaxInt32 + 1, math.MaxInt - 1, math.MaxInt}
	for _, from := range ends {
		for _, to := range ends {
			w := newWorld(t)
			if from == to {
				w.wantAddRefused(from, to)
				continue
			}
			w.add(from, to)
			w.wantEntries(entry(from, to, dirty.Planned))
			w.turn(from, dirty.Read)
			w.turn(from, dirty.Copied)
			w.wantWrote(from, to, true)
			w.wantGone(from, to, true)
			w.wantEntries()
		}
	}
	w := newWorld(t)
	w.add(math.MaxInt, 1)
	w.add(2, math.MaxInt-1)
	w.wantEntries(entry(2, math.MaxInt-1, dirty.Planned), entry(math.MaxInt, 1, dirty.Planned))
	w.wantNone(1)
	w.wantNone(math.MaxInt - 1)
}

func TestP16_1AddBelowOne(t *testing.T) {
	for _, w := range []world{newWorld(t), with(t, entry(5, 9, dirty.Read), entry(3, 8, dirty.Copied))} {
		for _, wrong := range below {
			for _, right := range []int{1, 2, 5, 9, math.MaxInt} {
				w.wantAddRefused(wrong, right)
				w.wantAddRefused(right, wrong)
			}
			for _, other := range below {
				w.wantAddRefused(wrong, other)
			}
			w.wantNone(wrong)
		}
	}
}

func TestP16_1AddOfEqual(t *testing.T) {
	for _, w := range []world{newWorld(t), with(t, entry(5, 9, dirty.Read), entry(3, 8, dirty.Copied))} {
		for _, addr := range append([]int{1, 2, 3, 4, 5, 8, 9, 10}, strangers...) {
			w.wantAddRefused(addr, addr)
		}
	}
}

// triples are three entries with each choice of states; which of their From is the least, and which of their To, are two things.
func triples() [][]dirty.Entry {
	var list [][]dirty.Entry
	for _, first := range states {
		for _, second := range states {
			for _, third := range states {
				list = append(list, []dirty.Entry{entry(10, 60, first), entry(20, 5, second), entry(30, 15, third)})
			}
		}
	}
	return list
}

func TestP16_1AddOfNamed(t *testing.T) {
	for _, entries := range triples() {
		w := with(t, entries...)
		for _, e := range entries {
			for _, named := range []int{e.From, e.To} {
				for _, other := range []int{1, 7, 12, 25, 40, 100, math.MaxInt} {
					w.wantAddRefused(named, other)
					w.wantAddRefused(other, named)
				}
				for _, o := range entries {
					w.wantAddRefused(named, o.From)
					w.wantAddRefused(named, o.To)
				}
			}
		}
		w.wantEntries(entries...)
	}
}

// TestP16_1AddOfGone adds what an entry named that went, each of the four ways.
func TestP16_1AddOfGone(t *testing.T) {
	for _, again := range [][2]int{{20, 7}, {5, 7}, {7, 20}, {7, 5}, {20, 5}, {5, 20}} {
		for _, entries := range triples() {
			added := entry(again[0], again[1], dirty.Planned)

			w := with(t, entries...)
			w.wantAddRefused(added.From, added.To)
			w.wantGone(20, 5, true)
			w.add(added.From, added.To)
			want := []dirty.Entry{entries[0], entries[2], added}
			slices.SortFunc(want, func(a, b dirty.Entry) int { return a.From - b.From })
			w.wantEntries(want...)

			w = with(t, entries...)
			w.wantAddRefused(added.From, added.To)
			w.Clear()
			w.add(added.From, added.To)
			w.wantEntries(added)
		}
	}
}

// TestP16_1Turn turns each state to each number: just two ways are taken.
func TestP16_1Turn(t *testing.T) {
	for _, entries := range triples() {
		for at, e := range entries {
			for _, state := range append(slices.Clone(states), noStates...) {
				w := with(t, entries...)
				taken := e.State == dirty.Planned && state == dirty.Read || e.State == dirty.Read && state == dirty.Copied
				if !taken {
					w.wantTurnRefused(e.From, state)
					continue
				}
				w.turn(e.From, state)
				want := slices.Clone(entries)
				want[at].State = state
				w.wantEntries(want...)
				w.wantSpoilt(0)
			}
		}
	}
}

func TestP16_1TurnOfNone(t *testing.T) {
	for _, entries := range triples() {
		w := with(t, entries...)
		for _, addr := range append([]int{60, 5, 15, 1, 9, 11, 19, 21, 29, 31}, strangers...) {
			for _, state := range append(slices.Clone(states), noStates...) {
				w.wantTurnRefused(addr, state)
			}
		}
		w.wantGone(20, 5, true)
		w.wantTurnRefused(20, dirty.Read)
		w.wantTurnRefused(20, dirty.Copied)
	}
}

func TestP16_2WroteOfNone(t *testing.T) {
	newWorld(t).wantNone(5)
	for _, entries := range triples() {
		w := with(t, entries...)
		for _, addr := range append([]int{1, 9, 11, 19, 21, 29, 31, 59, 61}, strangers...) {
			w.wantNone(addr)
		}
		w.wantSpoilt(0)
	}
}

// TestP16_2WroteOfTo demands that what is written at a To plays no part.
func TestP16_2WroteOfTo(t *testing.T) {
	for _, entries := range triples() {
		w := with(t, entries...)
		for _, e := range entries {
			w.wantNone(e.To)
		}
		w.wantEntries(entries...)
		w.wantSpoilt(0)
	}
}

func TestP16_2Wrote(t *testing.T) {
	for _, entries := range triples() {
		for at, e := range entries {
			w := with(t, entries...)
			want := slices.Clone(entries)
			spoilt := 0
			if e.State == dirty.Read {
				want[at].State = dirty.Planned
				spoilt = 1
			}
			mirror, is := 0, e.State == dirty.Copied
			if is {
				mirror = e.To
			}
			// However often it is asked, what was spoilt once is not spoilt again.
			for range 3 {
				w.wantWrote(e.From, mirror, is)
				w.wantEntries(want...)
				w.wantSpoilt(spoilt)
			}
		}
	}
}

// TestP16_2ReadAnew lets an entry be spoilt again and again; it may be Read and Copied each time.
func TestP16_2ReadAnew(t *testing.T) {
	beside := []dirty.Entry{entry(1, 2, dirty.Read), entry(30, 31, dirty.Read)}
	w := with(t, beside...)
	w.add(5, 9)
	for spoilt := range 20 {
		w.wantSpoilt(spoilt)
		w.wantTurnRefused(5, dirty.Copied)
		w.turn(5, dirty.Read)
		w.wantWrote(5, 0, false)
		w.wantEntries(beside[0], entry(5, 9, dirty.Planned), beside[1])
		w.wantSpoilt(spoilt + 1)
	}
	w.turn(5, dirty.Read)
	w.turn(5, dirty.Copied)
	for range 3 {
		w.wantWrote(5, 9, true)
	}
	w.wantEntries(beside[0], entry(5, 9, dirty.Copied), beside[1])
	w.wantSpoilt(20)
}

// TestP16_2Spoilt counts over all entries and since New, whatever becomes of the entries.
func TestP16_2Spoilt(t *testing.T) {
	w := with(t, entry(5, 9, dirty.Read), entry(3, 8, dirty.Read), entry(4, 7, dirty.Copied))
	w.wantSpoilt(0)
	w.wantWrote(5, 0, false)
	w.wantSpoilt(1)
	w.wantWrote(3, 0, false)
	w.wantSpoilt(2)
	w.wantWrote(4, 7, true)
	w.wantWrote(9, 0, false)
	w.wantSpoilt(2)
	w.wantGone(5, 9, true)
	w.wantGone(6, 0, false)
	w.wantSpoilt(2)
	w.turn(3, dirty.Read)
	// It goes while it is Read, and not back to Planned.
	w.wantGone(3, 8, true)
	w.wantSpoilt(2)
	w.add(5, 9)
	w.turn(5, dirty.Read)
	w.Clear()
	w.wantSpoilt(2)
	w.Clear()
	w.wantSpoilt(2)
	w.add(5, 9)
	w.wantSpoilt(2)
	w.turn(5, dirty.Read)
	w.wantWrote(5, 0, false)
	w.wantSpoilt(3)
}

func TestP16_3Gone(t *testing.T) {
	for _, entries := range triples() {
		for at, e := range entries {
			w := with(t, entries...)
			w.wantGone(e.From, e.To, true)
			w.wantEntries(slices.Delete(slices.Clone(entries), at, at+1)...)
			w.wantNone(e.From)
			w.wantNone(e.To)
			// What comes in its place is Planned, whatever it was.
			w.add(e.From, e.To)
			want := slices.Clone(entries)
			want[at].State = dirty.Planned
			w.wantEntries(want...)
			w.wantSpoilt(0)
		}
	}
}

func TestP16_3GoneOfNone(t *testing.T) {
	newWorld(t).wantNone(5)
	for _, entries := range triples() {
		w := with(t, entries...)
		for _, addr := range append([]int{60, 5, 15, 1, 9, 11, 19, 21, 29, 31}, strangers...) {
			w.wantGone(addr, 0, false)
			w.wantEntries(entries...)
		}
	}
}

// TestP16_3GoneAll lets all entries go, in each order.
func TestP16_3GoneAll(t *testing.T) {
	for _, order := range [][]int{{0, 1, 2}, {0, 2, 1}, {1, 0, 2}, {1, 2, 0}, {2, 0, 1}, {2, 1, 0}} {
		for _, entries := range triples() {
			w := with(t, entries...)
			left := slices.Clone(entries)
			for _, at := range order {
				w.wantGone(entries[at].From, entries[at].To, true)
				left = slices.DeleteFunc(left, func(e dirty.Entry) bool { return e == entries[at] })
				w.wantEntries(left...)
			}
			w.wantEntries()
		}
	}
}

func TestP16_3Find(t *testing.T) {
	for _, entries := range triples() {
		w := with(t, entries...)
		for _, e := range entries {
			w.wantFind(e.From, e, true)
			w.wantFind(e.To, dirty.Entry{}, false)
			w.wantFind(e.From-1, dirty.Entry{}, false)
			w.wantFind(e.From+1, dirty.Entry{}, false)
		}
		for _, addr := range strangers {
			w.wantFind(addr, dirty.Entry{}, false)
		}
	}
}

func TestP16_3Next(t *testing.T) {
	const planned, read, copied = dirty.Planned, dirty.Read, dirty.Copied
	for _, c := range []struct {
		states []int
		// next is the place of the one that is told, -1 for none.
		next int
	}{
		{nil, -1},
		{[]int{copied}, -1},
		{[]int{copied, copied, copied}, -1},
		{[]int{planned}, 0},
		{[]int{planned, planned, planned}, 0},
		{[]int{copied, planned, planned}, 1},
		{[]int{copied, copied, planned}, 2},
		{[]int{planned, copied, planned}, 0},
		{[]int{read}, 0},
		{[]int{planned, planned, read}, 2},
		{[]int{planned, read, planned}, 1},
		{[]int{read, planned, planned}, 0},
		{[]int{copied, planned, copied, read}, 3},
		{[]int{planned, read, read}, 1},
		{[]int{planned, read, copied, planned, read}, 1},
		{[]int{read, read, read}, 0},
	} {
		var entries []dirty.Entry
		for i, state := range c.states {
			// The To fall while the From rise: the first one is so by its From.
			entries = append(entries, entry(10*i+10, 99-i, state))
		}
		backwards := slices.Clone(entries)
		slices.Reverse(backwards)
		for _, w := range []world{with(t, entries...), with(t, backwards...)} {
			for range 2 {
				if c.next < 0 {
					w.wantNext(dirty.Entry{}, false)
				} else {
					w.wantNext(entries[c.next], true)
				}
				// To ask changes nothing.
				w.wantEntries(entries...)
			}
		}
	}
}

// TestP16_3NextLeads goes on with what Next tells till all is Copied.
func TestP16_3NextLeads(t *testing.T) {
	w := newWorld(t)
	for _, from := range []int{7, 3, 9, 1} {
		w.add(from, from+100)
	}
	for _, from := range []int{1, 3, 7, 9} {
		w.wantNext(entry(from, from+100, dirty.Planned), true)
		w.turn(from, dirty.Read)
		w.wantNext(entry(from, from+100, dirty.Read), true)
		w.wantWrote(from, 0, false)
		w.wantNext(entry(from, from+100, dirty.Planned), true)
		w.turn(from, dirty.Read)
		w.turn(from, dirty.Copied)
	}
	w.wantNext(dirty.Entry{}, false)
	w.wantSpoilt(4)
}

// TestP16_3List adds some entries in each order.
func TestP16_3List(t *testing.T) {
	entries := []dirty.Entry{entry(2, 50, dirty.Read), entry(4, 3, dirty.Planned), entry(6, 1, dirty.Copied), entry(8, 40, dirty.Read), entry(math.MaxInt, 7, dirty.Planned)}
	orders := 0
	var from func(rest, order []dirty.Entry)
	from = func(rest, order []dirty.Entry) {
		if len(rest) == 0 {
			orders++
			with(t, order...).wantEntries(entries...)
		}
		for i, e := range rest {
			from(slices.Delete(slices.Clone(rest), i, i+1), append(slices.Clone(order), e))
		}
	}
	from(entries, nil)
	if orders != 120 {
		t.Fatalf("%d orders", orders)
	}
}

func TestP16_3Clear(t *testing.T) {
	for _, entries := range triples() {
		w := with(t, entries[2], entries[0], entries[1])
		if got := w.Clear(); !slices.Equal(got, entries) {
			t.Fatalf("Clear: %v, not %v", got, entries)
		}
		w.wantEntries()
		for _, e := range entries {
			w.wantNone(e.From)
			w.wantNone(e.To)
		}
		for range 2 {
			if got := w.Clear(); len(got) != 0 {
				t.Fatalf("Clear of no entries: %v", got)
			}
		}
		w.add(20, 10)
		w.wantEntries(entry(20, 10, dirty.Planned))
		if got := w.Clear(); !slices.Equal(got, []dirty.Entry{entry(20, 10, dirty.Planned)}) {
			t.Fatalf("Clear: %v", got)
		}
		w.wantSpoilt(0)
	}
}
