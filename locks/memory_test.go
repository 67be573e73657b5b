package locks_test

import (
	"slices"
	"testing"

	"portage/api"
	"portage/locks"
)

// spare is a number that no entry has.
const spare = -77

// overwrite lays x over all of a list, its spare room too, and appends it.
func overwrite[T any](list []T, x T) {
	whole := list[:cap(list)]
	for i := range whole {
		whole[i] = x
	}
	_ = append(list, x)
	_ = append(whole, x)
}

// several is a table some entries of which wait, and the model of it.
func several(t *testing.T) (world, *model) {
	t.Helper()
	w, m := newWorld(t), &model{}
	for _, spans := range [][]locks.Span{
		{write(1, 0, 4)},
		{read(1, 3, 1), write(2, 0, 1)},
		nil,
		{read(1, 4, 1)},
		{write(2, 0, 0)},
		{read(2, 1, 1)},
		{write(0, 0, 0)},
		{read(2, 0, 1)},
	} {
		w.wantLike(m, call{spans: spans})
	}
	w.wantLike(m, call{number: 4})
	w.wantAll(m)
	return w, m
}

// lists are all lists that a table tells.
func (w world) lists() [][]int {
	all := [][]int{w.Waiting(), w.Ready(), w.Waiting(), w.Ready()}
	for number := -1; number <= 10; number++ {
		all = append(all, w.Ahead(number), w.Ahead(number))
	}
	return all
}

// TestP15_4ToldIsNew writes over each list that is told, its spare room too: no other one changes, and all is told as before.
func TestP15_4ToldIsNew(t *testing.T) {
	w, m := several(t)
	for i := range w.lists() {
		all, want := w.lists(), w.lists()
		overwrite(all[i], spare)
		for j := range all {
			if j != i && !slices.Equal(all[j], want[j]) {
				t.Fatalf("what was told as %v is %v, since another list was written over", want[j], all[j])
			}
			if j != i && slices.Contains(all[j][:cap(all[j])], spare) {
				t.Fatalf("two lists share their spare room")
			}
		}
		w.wantAll(m)
	}
	w.wantLike(m, call{spans: []locks.Span{read(1, 0, 4)}})
	w.wantLike(m, call{number: 1})
	w.wantAll(m)
}

// TestP15_4ToldStays demands that what was told stays as it was when the table changes.
func TestP15_4ToldStays(t *testing.T) {
	w, m := several(t)
	told, want := w.lists(), w.lists()
	for len(m.list) > 0 {
		w.wantLike(m, call{number: m.list[0].number})
		w.wantLike(m, call{spans: []locks.Span{write(1, 0, 1)}})
		if m.given > 30 {
			break
		}
	}
	for i := range told {
		if !slices.Equal(told[i], want[i]) {
			t.Fatalf("what was told as %v is %v now", want[i], told[i])
		}
	}
}

// TestP15_4HandedInIsNotKept writes over the list of spans behind the call, once with spans that clash with all and once with wrong ones, and appends to it.
func TestP15_4HandedInIsNotKept(t *testing.T) {
	for _, x := range []locks.Span{write(0, 0, 0), read(7, 0, 1), read(-1, -1, -1), {}} {
		w, m := newWorld(t), &model{}
		list := make([]locks.Span, 0, 5)
		for _, s := range []locks.Span{write(1, 0, 2), read(1, 1, 1), write(2, 0, 1), write(1, 1, 1)} {
			list = append(list[:0], s, read(3, 0, 1))
			want, _ := m.add(list)
			w.add(want, list...)
			overwrite(list, x)
			w.wantAll(m)
		}
		for _, number := range []int{3, 1, 2, 4} {
			w.wantLike(m, call{number: number})
			overwrite(list, x)
			w.wantAll(m)
		}
	}
}

// TestP15_4HandedInIsNotChanged demands that the list of spans, its spare room too, is as it was, whether it is refused or not.
func TestP15_4HandedInIsNotChanged(t *testing.T) {
	w, m := several(t)
	for _, spans := range [][]locks.Span{
		{write(1, 0, 2), read(0, 3, 4), read(1, 1, 1), read(1, 0, 2), write(9, 9, 9), read(9, 9, 9)},
		{write(1, 0, 2), read(0, 3, 4), read(1, 1, -1), read(1, 0, 2), write(-9, 9, 9), read(9, 9, 9)},
	} {
		want := slices.Clone(spans)
		number, err := w.Add(spans[:4]...)
		if !slices.Equal(spans, want) {
			t.Fatalf("%v became %v", want, spans)
		}
		if mine, code := m.add(spans[:4]); mine != number || code != 0 && err != error(code) {
			t.Fatalf("Add(%v): %d, %v", spans[:4], number, err)
		}
		w.wantAll(m)
		for _, other := range []int{1, 2, 9, 10, 3} {
			w.wantLike(m, call{number: other})
			w.wantAll(m)
		}
		if !slices.Equal(spans, want) {
			t.Fatalf("%v became %v", want, spans)
		}
	}
	w.wantError("Done", w.Done(1), api.ErrTicket)
}

// TestP15_4OneListTwice adds one list as two entries, and ends the first one: the other one has its spans.
func TestP15_4OneListTwice(t *testing.T) {
	w := newWorld(t)
	list := []locks.Span{write(1, 0, 1), write(2, 0, 1)}
	w.add(1, list...)
	w.add(2, list...)
	w.wantAhead(2, 1)
	w.done(1)
	w.add(3, read(2, 0, 1))
	w.wantAhead(3, 2)
	w.done(2)
	w.wantReady(3)
}
