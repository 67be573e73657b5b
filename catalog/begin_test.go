package catalog_test

import (
	"slices"
	"testing"

	"portage/api"
	"portage/btree"
	"portage/catalog"
)

// changing are calls that change a catalog with the volumes of many(20), saved or not.
func changing() map[string]func(w *world) {
	return map[string]func(w *world){
		"Put":          func(w *world) { w.put(catalog.Volume{Id: 99, Size: 1}) },
		"Put in place": func(w *world) { w.put(catalog.Volume{Id: 4, Size: 1}) },
		"Remove":       func(w *world) { w.remove(1, 20) },
		"Save":         func(w *world) { w.save() },
		"Leave":        func(w *world) { w.leave(0) },
		"others":       func(w *world) { w.become(full()) },
		"saved":        func(w *world) { w.become(full()); w.save() },
		"none":         func(w *world) { w.become(nil); w.save() },
		"all": func(w *world) {
			w.put(catalog.Volume{Id: 99, Size: 1})
			w.save()
			w.remove(3, 4)
			w.leave(1)
			w.save()
			w.leave(0)
			w.put(catalog.Volume{Id: 3, Size: 8})
		},
		"refused": func(w *world) {
			w.c.Put(catalog.Volume{})
			w.c.Remove(99)
			w.c.Begin()
		},
		"nothing": func(w *world) {},
	}
}

// begun is a catalog with many(20) of which some was saved, on two devices.
func begun(t *testing.T) *world {
	t.Helper()
	w := saved(t, many(10), 150, 140)
	w.put(many(20)...)
	w.remove(7)
	w.put(many(7)[6])
	return w
}

func TestP13_4Back(t *testing.T) {
	for what, change := range changing() {
		w := begun(t)
		before := w.tells()
		for range 2 {
			w.begin()
			change(w)
			w.back()
			wantSame(t, what, w.tells(), before)
			w.wantList(many(20)...)
			w.wantSaved(many(10)...)
		}
		// All of it may be done behind it, as if nothing had been.
		change(w)
		other := begun(t)
		change(other)
		if !slices.Equal(w.c.List(), other.c.List()) || !slices.Equal(w.pairs(), other.pairs()) {
			t.Fatalf("%s: %v, not %v", what, w.c.List(), other.c.List())
		}
		w.wantOwn()
	}
}

// pairs are the pairs of the tree, as numbers.
func (w *world) pairs() []int {
	var list []int
	for _, pair := range btree.Items(w.p, w.c.Root(), 0, -1) {
		list = append(list, pair.Key, pair.Val)
	}
	return list
}

func TestP13_4Commit(t *testing.T) {
	for what, change := range changing() {
		w := begun(t)
		w.begin()
		change(w)
		within := w.tells()
		w.commit()
		if got := w.tells(); !slices.Equal(got.Volumes, within.Volumes) || got.Root != within.Root {
			t.Fatalf("%s: %v, not %v", what, got, within)
		}
		w.wantOwn()
		// What was committed is not taken back by the next Back.
		before := w.tells()
		w.begin()
		w.put(catalog.Volume{Id: 1, Size: 5555})
		w.save()
		w.back()
		wantSame(t, what, w.tells(), before)
	}
}

func TestP13_4Busy(t *testing.T) {
	w := begun(t)
	busy := func(calls ...func() error) {
		t.Helper()
		before := w.tells()
		for _, call := range calls {
			wantError(t, "Begin, Commit or Back", call(), api.ErrBusy)
		}
		wantSame(t, "what is refused", w.tells(), before)
	}
	for _, end := range []func() error{w.c.Commit, w.c.Back, w.c.Back, w.c.Commit} {
		busy(w.c.Commit, w.c.Back)
		must(t, "Begin", w.c.Begin())
		busy(w.c.Begin, w.c.Begin)
		w.put(catalog.Volume{Id: 40, Size: 4})
		busy(w.c.Begin)
		must(t, "the end", end())
		busy(w.c.Back, w.c.Commit)
	}
	// So it is of one that was made otherwise.
	w = saved(t, many(1), 20)
	for _, c := range []*catalog.Catalog{w.another(w.c.Root()).c, w.another(0).c} {
		wantError(t, "Back", c.Back(), api.ErrBusy)
		wantError(t, "Commit", c.Commit(), api.ErrBusy)
		must(t, "Begin", c.Begin())
		wantError(t, "Begin", c.Begin(), api.ErrBusy)
		must(t, "Back", c.Back())
	}
}

// TestP13_4BeginTwice demands that a Begin that is refused leaves what may be taken back as it was.
func TestP13_4BeginTwice(t *testing.T) {
	w := begun(t)
	before := w.tells()
	w.begin()
	w.become(full())
	w.save()
	wantError(t, "Begin", w.c.Begin(), api.ErrBusy)
	w.back()
	wantSame(t, "Back", w.tells(), before)
}

// TestP13_4BackToBegin demands that Back goes to the Begin that is not ended, not to one ahead of it.
func TestP13_4BackToBegin(t *testing.T) {
	w := made(t, 60)
	w.begin()
	w.put(many(3)...)
	w.commit()
	w.begin()
	w.put(many(5)...)
	w.save()
	w.back()
	w.wantList(many(3)...)
	w.wantSaved()
	w.save()
	w.begin()
	w.become(nil)
	w.save()
	w.back()
	w.wantList(many(3)...)
	w.wantSaved(many(3)...)
}

// TestP13_4StoreByItself demands that neither the store nor the space is begun with a catalog, nor taken back.
func TestP13_4StoreByItself(t *testing.T) {
	w := begun(t)
	root := w.c.Root()
	must(t, "Hold", w.p.Hold(root))
	must(t, "Begin", w.c.Begin())
	wantError(t, "pages.Back", w.p.Back(), api.ErrBusy)
	wantError(t, "space.Back", w.s.Back(), api.ErrBusy)
	w.save()
	now := w.c.Root()
	within := w.tells()
	must(t, "Back", w.c.Back())
	if w.c.Root() != root || w.p.Holds(now) != 1 {
		t.Fatalf("Root: %d, not %d; the tree that was saved has %d holds", w.c.Root(), root, w.p.Holds(now))
	}
	after := w.tells()
	after.Root, after.Volumes = within.Root, within.Volumes
	wantSame(t, "Back", after, within)
	w.wantSaved(many(10)...)

	// A store that was begun stays so behind Commit and Back.
	for _, end := range []func() error{w.c.Commit, w.c.Back} {
		must(t, "pages.Begin", w.p.Begin())
		must(t, "space.Begin", w.s.Begin())
		must(t, "Begin", w.c.Begin())
		must(t, "the end", end())
		wantError(t, "pages.Begin", w.p.Begin(), api.ErrBusy)
		wantError(t, "space.Begin", w.s.Begin(), api.ErrBusy)
		must(t, "pages.Back", w.p.Back())
		must(t, "space.Back", w.s.Back())
	}
}

// TestP13_4Full demands that Back takes back volumes, whose places are free for others then.
func TestP13_4Full(t *testing.T) {
	w := made(t, 60)
	w.put(many(30)...)
	w.begin()
	w.put(many(32)...)
	wantError(t, "Put", w.c.Put(catalog.Volume{Id: 33, Size: 1}), api.ErrMany)
	w.back()
	w.put(catalog.Volume{Id: 33, Size: 1}, catalog.Volume{Id: 34, Size: 1})
	w.begin()
	w.remove(1, 2, 3)
	w.back()
	wantError(t, "Put", w.c.Put(catalog.Volume{Id: 35, Size: 1}), api.ErrMany)
}
