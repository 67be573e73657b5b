package thin_test

import (
	"reflect"
	"slices"
	"testing"

	"portage/api"
	"portage/space"
	"portage/thin"
)

// changing are calls that change a manager with content.
func changing() map[string]func(w *world) {
	return map[string]func(w *world){
		"Create":        func(w *world) { w.create(9, 9) },
		"Snapshot":      func(w *world) { w.snapshot(9, 1) },
		"Delete":        func(w *world) { w.delete(1) },
		"Resize":        func(w *world) { w.resize(1, 3); w.resize(2, 1000) },
		"Write":         func(w *world) { w.write(1, 0, 81); w.write(2, 5, 82) },
		"Write of many": func(w *world) { w.write(1, 0, span(81, 8)...); w.write(1, 0, span(91, 8)...) },
		"Discard":       func(w *world) { w.discard(1, 0, 3); w.discard(2, 2, 30) },
		"Save":          func(w *world) { w.save() },
		"Settle":        func(w *world) { w.m.Settle() },
		"Turn":          func(w *world) { w.drain(1) },
		"Swap": func(w *world) {
			w.drain(0)
			from, to := w.copies(0, 3)
			must(w.T, "Swap", w.m.Swap(0, from, to))
		},
		"Delete, Settle": func(w *world) {
			w.delete(1)
			w.m.Settle()
			for block := range 20 {
				w.write(2, block, 100+block)
			}
		},
		"Save, Settle, Save": func(w *world) {
			w.write(1, 0, span(81, 8)...)
			w.save()
			w.m.Settle()
			w.create(9, 9)
			w.write(9, 0, span(101, 8)...)
			w.save()
			w.m.Settle()
			w.write(9, 1, span(111, 8)...)
			w.write(1, 0, span(121, 8)...)
		},
		"a device is left": func(w *world) {
			w.drain(0)
			from, to := w.copies(0, 100)
			must(w.T, "Swap", w.m.Swap(0, from, to))
			w.m.Settle()
			r, err := w.m.Space().Roster().Remove(0)
			must(w.T, "Remove", err)
			must(w.T, "Turn", w.m.Turn(r))
			w.write(1, 20, span(81, 8)...)
			must(w.T, "Fill", w.b.Fill(0, []byte{77}))
		},
		"others": func(w *world) {
			for _, info := range w.m.List() {
				w.delete(info.Id)
			}
			w.m.Settle()
			w.create(1, 100)
			for block := range 40 {
				w.write(1, block, 100+block)
			}
			w.save()
			w.m.Settle()
		},
		"refused": func(w *world) {
			w.m.Create(0, 0)
			w.m.Delete(99)
			w.m.Write(1, 0, nil)
			w.m.Begin()
			w.b.Arm(3)
			w.m.Write(1, 0, of(span(1, 8)...))
			w.keep()
		},
		"nothing": func(w *world) {},
	}
}

// kinds are managers with content, of which some is saved or settled.
func kinds() map[string]func(w *world) {
	return map[string]func(w *world){
		"fresh":   (*world).content,
		"saved":   func(w *world) { w.content(); w.save(); w.create(7, 7) },
		"settled": func(w *world) { w.settled(); w.create(7, 7) },
		"behind":  func(w *world) { w.settled(); w.write(2, 5, 33); w.discard(1, 7, 2); w.delete(4) },
	}
}

func TestP14_5Back(t *testing.T) {
	for kind, build := range kinds() {
		for what, change := range changing() {
			w := made(t, 80, 70)
			build(w)
			before := w.tells()
			for range 3 {
				w.begin()
				change(w)
				w.wantOwn()
				w.back()
				if !reflect.DeepEqual(w.tells(), before) {
					t.Fatalf("%s, %s: %+v, not %+v", kind, what, w.tells(), before)
				}
				w.wantOwn()
			}
			// What comes behind it is answered as if nothing had been, what is fenced too.
			other := made(t, 80, 70)
			build(other)
			none := func(*thin.Manager) error { return nil }
			if got, want := w.answers(nil, none), other.answers(nil, none); !reflect.DeepEqual(got, want) {
				t.Fatalf("%s, %s: behind Back %+v, not %+v", kind, what, got, want)
			}
			w.wantEmpty()
		}
	}
}

func TestP14_5Commit(t *testing.T) {
	for kind, build := range kinds() {
		for what, change := range changing() {
			w := made(t, 80, 70)
			build(w)
			w.begin()
			change(w)
			within := w.tells()
			w.commit()
			after := w.tells()
			// What was given back for Back's sake is free.
			within.Used, after.Used, within.Free, after.Free, within.Count, after.Count = nil, nil, nil, nil, 0, 0
			if !reflect.DeepEqual(after, within) {
				t.Fatalf("%s, %s: %+v, not %+v", kind, what, after, within)
			}
			w.wantOwn()
			// What was committed is not taken back by the next Back.
			before := w.tells()
			w.begin()
			w.create(30, 30)
			w.write(30, 0, 1, 2, 3)
			w.save()
			w.back()
			wantSame(t, what, w.tells(), before)
			w.save()
			w.m.Settle()
			w.wantLoaded()
			w.wantEmpty()
		}
	}
}

// TestP14_5CommitFrees demands that what was fresh at Begin, and was given since, is free behind Commit alone.
func TestP14_5CommitFrees(t *testing.T) {
	w := made(t, 60)
	w.create(1, 20)
	w.write(1, 3, 5)
	addr, pages := w.m.Map(1, 3), w.m.Pages()
	w.begin()
	w.write(1, 3, 6)
	if w.isFree(addr) || w.isFree(pages[0]) {
		t.Fatal("what Back brings back is free")
	}
	w.commit()
	if !w.isFree(addr) || !w.isFree(pages[0]) {
		t.Fatal("what nobody brings back is not free")
	}
	w.wantOwn()
}

func TestP14_5Busy(t *testing.T) {
	w := made(t, 60)
	w.content()
	for _, end := range []func() error{w.m.Commit, w.m.Back, w.m.Back, w.m.Commit} {
		w.refuses("Commit", api.ErrBusy, w.m.Commit)
		w.refuses("Back", api.ErrBusy, w.m.Back)
		w.begin()
		w.refuses("Begin", api.ErrBusy, w.m.Begin)
		w.write(1, 3, 7)
		w.save()
		w.refuses("Begin", api.ErrBusy, w.m.Begin)
		must(t, "the end", end())
		w.refuses("Back", api.ErrBusy, w.m.Back)
		w.refuses("Commit", api.ErrBusy, w.m.Commit)
	}
	w.save()
	w.m.Settle()
	other := w.another(w.m.Root())
	other.refuses("Back", api.ErrBusy, other.m.Back)
	other.begin()
	other.refuses("Begin", api.ErrBusy, other.m.Begin)
	other.back()
}

// TestP14_5BackToBegin demands that Back goes to the Begin that is not ended, not to one ahead of it, nor to a Save since.
func TestP14_5BackToBegin(t *testing.T) {
	w := made(t, 90)
	w.begin()
	w.content()
	w.save()
	w.commit()
	before := w.tells()
	w.begin()
	for i := range 4 {
		w.write(1, i, 60+i)
		w.save()
		wantError(t, "Begin", w.m.Begin(), api.ErrBusy)
	}
	w.back()
	wantSame(t, "Back", w.tells(), before)
	w.wantEmpty()
}

// TestP14_5BackFenced demands that Back brings back what was fenced, though all was settled since, and takes back what was fenced since.
func TestP14_5BackFenced(t *testing.T) {
	w := made(t, 90)
	w.create(1, 20)
	w.write(1, 0, span(1, 8)...)
	w.snapshot(2, 1)
	w.discard(2, 0, 3)
	w.begin()
	w.m.Settle()
	w.discard(2, 3, 2)
	w.back()
	w.discard(2, 5, 1)
	for _, block := range []int{0, 1, 2, 5} {
		w.wantMoves(1, block, 50+block)
	}
	w.m.Settle()
	w.begin()
	w.delete(2)
	w.back()
	w.discard(2, 3, 1)
	w.m.Settle()
	w.wantStays(1, 3, 60)
	for _, block := range []int{4, 6, 7} {
		w.wantMoves(1, block, 60+block)
	}
}

// TestP14_5BackBytes demands that Back brings back bytes that were written over, since all was settled between Begin and its end.
func TestP14_5BackBytes(t *testing.T) {
	for kind, build := range kinds() {
		w := made(t, 50, 40)
		build(w)
		before := w.tells()
		w.begin()
		for _, info := range w.m.List() {
			w.delete(info.Id)
		}
		w.save()
		w.m.Settle()
		w.create(1, 100)
		var err error
		for block := 0; err == nil; block++ {
			err = w.m.Write(1, block, of(200+block))
		}
		wantError(t, kind, err, api.ErrFull)
		over := 0
		for _, addr := range slices.Concat(before.Data, before.Pages) {
			if w.m.Space().Taken(addr) {
				over++
			}
		}
		if over < 10 {
			t.Fatalf("%s: just %d are written over", kind, over)
		}
		w.m.Settle()
		w.discard(1, 0, 100)
		w.m.Settle()
		w.back()
		wantSame(t, kind, w.tells(), before)
		// The pages' bytes are there, too.
		w.save()
		w.m.Settle()
		w.wantLoaded()
	}
}

// TestP14_5BackNoPower demands that Back tells layer 4's error, if there are bytes that it cannot bring back, and brings back all else.
func TestP14_5BackNoPower(t *testing.T) {
	w := made(t, 6)
	w.create(1, 20)
	w.write(1, 3, 5)
	addr := w.m.Map(1, 3)
	before := w.tells()
	w.begin()
	w.discard(1, 3, 1)
	w.m.Settle()
	w.write(1, 7, 8)
	if w.m.Map(1, 7) != addr {
		t.Fatalf("%d was not taken again", addr)
	}
	w.b.Arm(0)
	wantError(t, "Write", w.b.Write(0, 0, of(1)), broken("write", 0, api.ErrDown))
	wantError(t, "Back", w.m.Back(), broken("write", addr, api.ErrDown))
	wantError(t, "Back", w.m.Back(), api.ErrBusy)
	w.keep()
	after := w.tells()
	before.Blocks, after.Blocks = nil, nil
	wantSame(t, "Back", after, before)
	w.want(1, 3, 8)

	// Where nothing is to be brought back no power is needed.
	w = made(t, 60)
	w.content()
	before = w.tells()
	w.begin()
	w.write(1, 3, 5)
	w.delete(2)
	w.b.Arm(0)
	wantError(t, "Write", w.b.Write(0, 0, of(1)), broken("write", 0, api.ErrDown))
	w.back()
	w.keep()
	wantSame(t, "Back", w.tells(), before)
	device, _ := space.At(w.m.Map(1, 3))
	must(t, "Detach", w.b.Detach(device))
	w.begin()
	w.delete(1)
	w.m.Settle()
	w.back()
}
