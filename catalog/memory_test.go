package catalog_test

import (
	"slices"
	"testing"

	"portage/catalog"
)

// written is laid over what was told.
var written = catalog.Volume{Id: -78, Size: -78, Root: -78, Origin: -78}

// overwrite lays something over all of a list, its spare room too, and appends to it.
func overwrite(list []catalog.Volume) {
	_ = append(list, written)
	for i := range list[:cap(list)] {
		list[:cap(list)][i] = written
	}
	_ = append(list[:cap(list)], written)
}

// spoil writes over what List tells, and demands that neither another answer nor the catalog is changed by it.
func (w *world) spoil() {
	w.Helper()
	before := w.tells()
	first, second := w.c.List(), w.c.List()
	want := slices.Clone(second)
	overwrite(first)
	if !slices.Equal(second, want) || slices.Contains(second[:cap(second)], written) {
		w.Fatalf("two answers of List share memory: %v", second)
	}
	wantSame(w.T, "List", w.tells(), before)
	overwrite(second)
	wantSame(w.T, "List", w.tells(), before)
}

// TestP13_5ToldIsNew writes over all that is told, at each step of a catalog's life.
func TestP13_5ToldIsNew(t *testing.T) {
	w := made(t, 200)
	w.spoil()
	for count := range 33 {
		w.put(many(count)...)
		w.spoil()
	}
	w.save()
	w.spoil()
	w.remove(4, 31, 32)
	w.spoil()
	w.begin()
	w.spoil()
	w.remove(1, 2)
	w.put(catalog.Volume{Id: 1, Size: 9}, catalog.Volume{Id: 77, Size: 9})
	w.spoil()
	w.save()
	w.spoil()
	w.leave(0)
	w.spoil()
	w.back()
	w.spoil()
	w.begin()
	w.remove(3)
	w.commit()
	w.spoil()
	list := w.c.List()
	for i := range list {
		list[i].Root = 0
	}
	w.put(list...)
	w.save()
	w.wantSaved(list...)
	other := w.another(w.c.Root())
	other.spoil()
	other.wantList(list...)
	other.put(catalog.Volume{Id: 1000, Size: 1})
	other.spoil()
	w.wantList(list...)
	other = w.another(0)
	other.spoil()
}

// TestP13_5ToldStays demands that what was told is not changed by what comes later.
func TestP13_5ToldStays(t *testing.T) {
	w := made(t, 200)
	w.put(many(20)...)
	w.save()
	first, found := w.c.List(), many(20)[4]
	got, _ := w.c.Find(5)
	w.begin()
	within := w.c.List()
	w.put(catalog.Volume{Id: 5, Size: 99}, catalog.Volume{Id: 21, Size: 99})
	w.remove(1, 9)
	w.save()
	changed := w.c.List()
	want := slices.Clone(changed)
	w.back()
	w.become(full())
	for _, list := range [][]catalog.Volume{first, within} {
		if !slices.Equal(list, many(20)) {
			t.Errorf("what was told is changed: %v", list)
		}
	}
	if !slices.Equal(changed, want) || got != found {
		t.Errorf("what was told is changed: %v, %v", changed, got)
	}
}

// TestP13_5BackIsOwn demands that what Back brings back was kept apart from what was told, and from what was changed since.
func TestP13_5BackIsOwn(t *testing.T) {
	w := made(t, 200)
	w.put(many(32)...)
	before := w.c.List()
	w.begin()
	overwrite(before)
	overwrite(w.c.List())
	for _, v := range many(32) {
		v.Size = 5000
		w.put(v)
	}
	w.remove(1, 16, 32)
	w.put(catalog.Volume{Id: 100, Size: 1})
	w.back()
	w.wantList(many(32)...)
	w.begin()
	w.remove(2)
	w.back()
	w.wantList(many(32)...)
}
