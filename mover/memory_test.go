package mover_test

import (
	"bytes"
	"slices"
	"testing"

	"portage/dirty"
	"portage/mover"
)

// other is an entry that is in no region of these tests.
var other = dirty.Entry{From: -78, To: -78, State: -78}

// overwrite lays something over all of a list, its spare room too, and appends to it.
func overwrite[T any](list []T, with T) {
	_ = append(list, with)
	whole := list[:cap(list)]
	for i := range whole {
		whole[i] = with
	}
	_ = append(whole, with)
}

// spoil writes over what Region tells, and demands that nothing that is told later changes.
func (w *world) spoil() {
	w.Helper()
	before := w.tells()
	first, second := w.v.Region(), w.v.Region()
	whole := second[:cap(second)]
	was := slices.Clone(whole)
	overwrite(first, other)
	if !slices.Equal(whole, was) {
		w.Fatalf("two answers of Region share memory: %v", second)
	}
	overwrite(second, other)
	wantSame(w.T, "what is told", w.tells(), before)
}

// TestP18_6ToldIsNew writes over what is told behind each step, and behind what comes between them.
func TestP18_6ToldIsNew(t *testing.T) {
	w := plain(t, 10)
	w.spoil()
	steps := 0
	w.all(func() {
		w.spoil()
		switch steps++; steps {
		case 5:
			must(t, "Discard", w.m.Discard(1, 2, 1))
			w.v.Prune()
			w.spoil()
		case 14:
			w.v.Cancel()
			w.spoil()
		}
	})
	w.spoil()
	w.want(1, 0, 1, 2, 0, 4, 5, 6, 7, 8, 9, 10)
}

// TestP18_6ToldStays demands that what was told is not changed by what comes later.
func TestP18_6ToldStays(t *testing.T) {
	w := plain(t, 6)
	w.step(mover.Planned)
	first := w.v.Region()
	was := slices.Clone(first)
	w.step(mover.Read, mover.Wrote, mover.Read)
	second := w.v.Region()
	then := slices.Clone(second)
	must(t, "Written", w.v.Written(second[1].From, of(2)))
	must(t, "Discard", w.m.Discard(1, 0, 1))
	w.v.Prune()
	w.v.Cancel()
	w.copied()
	w.step(mover.Swapped, mover.Planned)
	if !slices.Equal(first, was) || !slices.Equal(second, then) {
		t.Fatalf("what was told as %v and %v is %v and %v", was, then, first, second)
	}
}

// TestP18_6HandedIn hands data to Written, with spare room, of an entry in each state, and writes over it then.
func TestP18_6HandedIn(t *testing.T) {
	w, copied, read, planned := stage(t)
	for _, e := range []dirty.Entry{copied, read, planned} {
		w.writeAt(e.From, 77)
		long := append(of(77), 1, 2, 3)
		was := slices.Clone(long)
		data := long[:len(long)-3]
		must(t, "Written", w.v.Written(e.From, data))
		if !slices.Equal(long, was) {
			t.Fatal("Written changes what it is handed")
		}
		overwrite(data, 238)
		overwrite(long, 238)
	}
	if !bytes.Equal(w.at(copied.To), of(77)) {
		t.Fatal("what was written over later is in the copy")
	}
	w.finish(1, 77, 77, 77, 5, 6)
}

// TestP18_6HandedInWrong demands that what is refused is not changed, either.
func TestP18_6HandedInWrong(t *testing.T) {
	w, copied, _, _ := stage(t)
	for _, size := range []int{0, 1, 127, 129, 300} {
		data := bytes.Repeat([]byte{9}, size)
		was := slices.Clone(data)
		if w.v.Written(copied.From, data) == nil || !slices.Equal(data, was) {
			t.Fatalf("Written changes %d bytes that it is handed", size)
		}
		overwrite(data, 238)
	}
	w.finish(span(1, 6)...)
}
