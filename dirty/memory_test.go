package dirty_test

import (
	"slices"
	"testing"

	"portage/dirty"
)

// spare is an entry that no log has.
var spare = dirty.Entry{From: -77, To: -78, State: -79}

// overwrite lays spare over all of a list, its spare room too, and appends it.
func overwrite(list []dirty.Entry) {
	whole := list[:cap(list)]
	for i := range whole {
		whole[i] = spare
	}
	_ = append(list, spare)
	_ = append(whole, spare)
}

// wantUnshared writes over each list in turn, its spare room too, and demands that no other one changes.
func wantUnshared(t *testing.T, lists ...[]dirty.Entry) {
	t.Helper()
	for i := range lists {
		overwrite(lists[i])
		for _, other := range lists[i+1:] {
			if slices.Contains(other[:cap(other)], spare) {
				t.Fatalf("two lists share memory")
			}
		}
	}
}

// sizes are how many entries a log has in these tests: what a list grows by differs from one to the next.
var sizes = []int{1, 2, 3, 4, 5, 7, 8, 9, 20}

// several is a log with so many entries of all states, one that went ahead of them, and what it is to tell.
func several(t *testing.T, size int) (world, []dirty.Entry) {
	t.Helper()
	w := with(t, entry(5, 6, dirty.Read))
	var entries []dirty.Entry
	for i := range size {
		e := entry(10*i+10, 1000-i, i%3)
		entries = append(entries, e)
		w.add(e.From, e.To)
		w.turnUpTo(e.From, e.State)
	}
	w.wantGone(5, 6, true)
	w.wantEntries(entries...)
	return w, entries
}

func TestP16_4ListIsNew(t *testing.T) {
	for _, size := range sizes {
		w, entries := several(t, size)
		for range 3 {
			overwrite(w.List())
			w.wantEntries(entries...)
		}
		wantUnshared(t, w.List(), w.List(), w.List())
		w.wantEntries(entries...)
		w.add(1, 2)
		want := append([]dirty.Entry{entry(1, 2, dirty.Planned)}, entries...)
		w.wantEntries(want...)
		told := w.List()
		overwrite(told[:1])
		if got := w.Clear(); !slices.Equal(got, want) {
			t.Fatalf("Clear: %v, not %v", got, want)
		}
	}
}

func TestP16_4ClearIsNew(t *testing.T) {
	for _, size := range sizes {
		w, entries := several(t, size)
		listed := w.List()
		cleared := w.Clear()
		wantUnshared(t, listed, cleared, w.List(), w.Clear())
		w.wantEntries()
		for _, e := range entries {
			w.add(e.From, e.To)
			w.turnUpTo(e.From, e.State)
			overwrite(cleared)
			overwrite(listed)
		}
		w.wantEntries(entries...)
		again := w.Clear()
		if !slices.Equal(again, entries) {
			t.Fatalf("Clear: %v, not %v", again, entries)
		}
		overwrite(cleared)
		overwrite(listed)
		if slices.Contains(again[:cap(again)], spare) {
			t.Fatalf("what two calls of Clear told shares memory")
		}
	}
}

// churn lets all entries of a log change, go and come again, and others come beside them.
func (w world) churn() {
	for _, e := range w.List() {
		w.Turn(e.From, e.State+1)
		w.Wrote(e.From)
		w.Add(e.From+1, e.To+1000)
	}
	for _, e := range w.List() {
		w.Gone(e.From)
		w.Add(e.From, e.To+3000)
	}
}

// TestP16_4ToldStays demands that what was told stays as it was when the log changes.
func TestP16_4ToldStays(t *testing.T) {
	for _, size := range sizes {
		w, entries := several(t, size)
		listed := w.List()
		w.churn()
		if !slices.Equal(listed, entries) {
			t.Fatalf("what List told as %v is %v now", entries, listed)
		}
		want := w.List()
		cleared := w.Clear()
		for _, e := range entries {
			w.add(e.From+500, e.To)
		}
		w.churn()
		if !slices.Equal(cleared, want) {
			t.Fatalf("what Clear told as %v is %v now", want, cleared)
		}
	}
}
