package pool_test

import (
	"reflect"
	"slices"
	"testing"

	"portage/api"
	"portage/pool"
	"portage/roster"
	"portage/thin"
)

// overwrite lays something over all of a list, its spare room too, and appends to it.
func overwrite[T any](list []T, with T) {
	_ = append(list, with)
	whole := list[:cap(list)]
	for i := range whole {
		whole[i] = with
	}
	_ = append(whole, with)
}

// spoil writes over all that is told, and demands that nothing that is told later changes.
func (w *world) spoil() {
	w.Helper()
	before := w.tells()
	first, second := w.p.Info(), w.p.Info()
	overwrite(first.Volumes, thin.Info{Id: -7})
	overwrite(first.Roster.List, roster.Entry{State: api.Removed, Size: -7})
	if len(second.Volumes) != len(before.Info.Volumes) || !reflect.DeepEqual(second, before.Info) {
		w.Fatalf("two answers of Info share memory: %+v", second)
	}
	overwrite(second.Volumes, thin.Info{Id: -8})
	overwrite(second.Roster.List, roster.Entry{State: api.Absent, Size: -8})
	for _, v := range before.Info.Volumes {
		data, err := w.p.Read(v.Id, 0, min(v.Size, api.MaxRun))
		must(w.T, "Read", err)
		other, err := w.p.Read(v.Id, 0, min(v.Size, api.MaxRun))
		must(w.T, "Read", err)
		was := slices.Clone(other)
		overwrite(data, 238)
		if !slices.Equal(other, was) {
			w.Fatal("two answers of Read share memory")
		}
		overwrite(other, 239)
	}
	wantSame(w.T, "what is told", w.tells(), before)
}

// TestP19_9ToldIsNew writes over what is told behind each call.
func TestP19_9ToldIsNew(t *testing.T) {
	w := made(t, 60, 50, 40)
	w.spoil()
	for _, c := range []call{
		creates(1, 20), writes(1, 0, span(1, 8)...), snapshots(2, 1), writes(1, 2, 77), flushes(), evacuates(0), moves(), moves(), writes(2, 0, 78),
		moves(), discards(1, 1, 1), cancels(), resizes(2, 5), evacuates(1), moves(), deletes(1),
	} {
		must(t, c.name, c.do(w.p))
		w.spoil()
	}
	w.leave(func(int) { w.spoil() })
	w.spoil()
	w.crash()
	w.spoil()
	w.want(2, 0, 78, 2, 3, 4, 5)
}

// TestP19_9ToldStays demands that what was told is not changed by what comes later.
func TestP19_9ToldStays(t *testing.T) {
	w := made(t, 60, 50, 40)
	w.create(1, 20, span(1, 8)...)
	var infos, were []pool.Info
	var reads, had [][]byte
	look := func() {
		t.Helper()
		i := w.p.Info()
		infos = append(infos, i)
		i.Volumes, i.Roster.List = slices.Clone(i.Volumes), slices.Clone(i.Roster.List)
		were = append(were, i)
		data, err := w.p.Read(1, 0, 8)
		must(t, "Read", err)
		reads, had = append(reads, data), append(had, slices.Clone(data))
		if !reflect.DeepEqual(infos, were) || !reflect.DeepEqual(reads, had) {
			t.Fatal("what was told changes")
		}
	}
	for _, c := range []call{
		snapshots(2, 1), writes(1, 0, span(11, 8)...), evacuates(0), moves(), moves(), moves(), writes(1, 0, span(21, 8)...), discards(1, 3, 1), resizes(1, 30), deletes(2), cancels(),
	} {
		look()
		must(t, c.name, c.do(w.p))
	}
	must(t, "Evacuate", w.p.Evacuate(0))
	w.leave(func(int) { look() })
	look()
}

// TestP19_9HandedIn hands data to Write, with spare room, in each state of the blocks' copies, and writes over it then.
func TestP19_9HandedIn(t *testing.T) {
	for steps := range 2 + 2*api.Region {
		w, _ := copying(t, steps)
		for i := range 3 {
			long := append(of(span(31+i, 8)...), 1, 2, 3)
			was := slices.Clone(long)
			data := long[:len(long)-3]
			must(t, "Write", w.p.Write(1, 0, data))
			if !slices.Equal(long, was) {
				t.Fatal("Write changes what it is handed")
			}
			overwrite(data, 238)
			overwrite(long, 238)
			w.want(1, 0, span(31+i, 8)...)
		}
		w.finish(span(33, 8)...)
	}
}

// TestP19_9HandedInWrong demands that what is refused is not changed, either.
func TestP19_9HandedInWrong(t *testing.T) {
	w, _ := copying(t, 3)
	for _, size := range []int{0, 1, 127, 128, 129, 1024, 1152, 3000} {
		data := slices.Repeat([]byte{9}, size)
		was := slices.Clone(data)
		for _, id := range []int{0, 9} {
			wantError(t, "Write", w.p.Write(id, 0, data), api.ErrVolume)
		}
		if w.p.Write(1, 12, data) == nil || !slices.Equal(data, was) {
			t.Fatalf("Write changes %d bytes that it is handed", size)
		}
		overwrite(data, 238)
	}
	w.finish(span(1, 8)...)
}
