package pages_test

import (
	"slices"
	"testing"

	"portage/api"
	"portage/node"
)

// changing are calls that change a store, with their space, in several ways each: of planted's pages some went, and those at 7 to 9 and 4103 to 4105 may be adopted.
func changing() map[string]func(w *world) {
	return map[string]func(w *world){
		"Put":            func(w *world) { w.putAny(leaf(77)) },
		"Put above":      func(w *world) { w.putAny(numbered(1, 4100, 6, 4100)) },
		"Hold":           func(w *world) { w.hold(6, 4100, 4100, 2) },
		"Drop":           func(w *world) { w.drop(4102) },
		"Drop not":       func(w *world) { w.hold(4102, 2); w.drop(4102, 2) },
		"Scrap":          func(w *world) { must(w.T, "Scrap", w.p.Scrap(5)) },
		"Scrap leaf":     func(w *world) { must(w.T, "Scrap", w.p.Scrap(6)) },
		"Adopt":          func(w *world) { w.adopt(4105) },
		"Adopt known":    func(w *world) { w.adopt(6, 2, 6) },
		"Put and Scrap":  func(w *world) { must(w.T, "Scrap", w.p.Scrap(w.putAny(numbered(1, 6)))) },
		"Adopt and Drop": func(w *world) { w.adopt(9); w.drop(9) },
		"all": func(w *world) {
			w.adopt(9, 4105)
			w.drop(4102)
			must(w.T, "Scrap", w.p.Scrap(5))
			w.hold(w.putAny(numbered(1, 7, 6)))
			w.drop(9)
			w.hold(9, 4098)
			must(w.T, "Scrap", w.p.Scrap(4100))
		},
		"refused": func(w *world) {
			w.p.Put(node.Node{})
			w.p.Put(numbered(1, 5))
			w.p.Drop(5)
			w.p.Scrap(4102)
			w.p.Adopt(1)
			w.p.Adopt(8)
		},
		"nothing": func(w *world) {},
	}
}

// putAny is the address that Put tells.
func (w *world) putAny(n node.Node) int {
	w.Helper()
	addr, err := w.p.Put(n)
	must(w.T, "Put", err)
	return addr
}

// readied is planted with a hold of the tree at 4102, all of it settled, a tree that nobody knows at 9, one at 4105 that shares pages with it and with those that are known, and one at 8 that is broken.
func readied(t *testing.T) *world {
	t.Helper()
	w := planted(t)
	w.hold(4102)
	w.s.Settle()
	w.layNode(7, leaf(7))
	w.layNode(9, numbered(1, 7))
	w.layNode(4104, numbered(1, 7, 2))
	w.layNode(4105, numbered(2, 9, 4104, 4))
	w.layNode(8, numbered(1, 2, 7, 4104))
	return w
}

func TestP11_4Back(t *testing.T) {
	for what, change := range changing() {
		w := readied(t)
		before := w.all()
		for range 2 {
			w.begin()
			change(w)
			w.back()
			wantSame(t, what, w.all(), before)
		}
		// All of it may be done behind it, as if nothing had been.
		change(w)
		fresh := readied(t)
		change(fresh)
		wantSame(t, what, w.all(), fresh.all())
	}
}

func TestP11_4Commit(t *testing.T) {
	for what, change := range changing() {
		w, other := readied(t), readied(t)
		w.begin()
		change(w)
		within := w.tells()
		w.commit()
		wantSame(t, what, w.tells(), within)
		change(other)
		wantSame(t, what, w.all(), other.all())
		// What was committed is not taken back by the next Back.
		before := w.all()
		w.begin()
		w.hold(3)
		w.back()
		wantSame(t, what, w.all(), before)
	}
}

// TestP11_4BackToBegin demands that Back goes to the Begin that is not ended, not to one ahead of it.
func TestP11_4BackToBegin(t *testing.T) {
	w := made(t, 20)
	w.begin()
	w.put(2, leaf(1))
	w.commit()
	w.begin()
	w.put(3, leaf(2))
	w.back()
	w.wantHolds(holds{2: 0})
	w.put(3, leaf(3))
	w.begin()
	w.put(4, numbered(1, 2, 3))
	w.back()
	w.wantHolds(holds{2: 0, 3: 0})
	w.wantGet(3, leaf(3))
}

// TestP11_4SameAddress takes an address once more, between Begin and Back, for another page.
func TestP11_4SameAddress(t *testing.T) {
	w := made(t, 6)
	w.put(2, leaf(1))
	w.begin()
	w.put(3, leaf(2))
	must(t, "Scrap", w.p.Scrap(3))
	w.put(3, numbered(1, 2))
	w.wantGet(3, numbered(1, 2))
	must(t, "Scrap", w.p.Scrap(3))
	w.put(3, leaf(4))
	w.back()
	w.wantHolds(holds{2: 0})
	w.missing(3)
}

func TestP11_4Busy(t *testing.T) {
	w := readied(t)
	before := w.all()
	busy := func(what string, call func() error) {
		t.Helper()
		wantError(t, what, call(), api.ErrBusy)
	}
	for _, end := range []func(){w.commit, w.back, w.commit} {
		busy("Commit", w.p.Commit)
		busy("Back", w.p.Back)
		wantSame(t, "ErrBusy", w.all(), before)
		w.begin()
		busy("Begin", w.p.Begin)
		w.hold(2)
		busy("Begin", w.p.Begin)
		w.drop(2)
		w.putAny(numbered(1, 2))
		within := w.tells()
		busy("Begin", w.p.Begin)
		wantSame(t, "Begin", w.tells(), within)
		end()
		before = w.all()
	}
	busy("Commit", w.p.Commit)
	busy("Back", w.p.Back)
}

// TestP11_4BeginTwice demands that a Begin that is refused leaves the first one as it is.
func TestP11_4BeginTwice(t *testing.T) {
	w := readied(t)
	before := w.all()
	w.begin()
	w.hold(2)
	must(t, "Scrap", w.p.Scrap(5))
	wantError(t, "Begin", w.p.Begin(), api.ErrBusy)
	w.hold(4102)
	w.back()
	wantSame(t, "Back", w.all(), before)
}

// TestP11_4SpaceByItself demands that the space is neither begun nor taken back with the store.
func TestP11_4SpaceByItself(t *testing.T) {
	w := made(t, 10)
	w.put(2, leaf(1))
	must(t, "Begin", w.p.Begin())
	wantError(t, "space.Commit", w.s.Commit(), api.ErrBusy)
	w.put(3, leaf(2))
	must(t, "Back", w.p.Back())
	if !slices.Equal(w.p.Pages(), []int{2}) || !slices.Equal(w.s.On(0), []int{2, 3}) {
		t.Errorf("Back: %v, %v", w.p.Pages(), w.s.On(0))
	}
	must(t, "space.Give", w.s.Give(3))
	must(t, "Begin", w.p.Begin())
	w.put(3, leaf(2))
	must(t, "Commit", w.p.Commit())
	w.wantHolds(holds{2: 0, 3: 0})

	// Begun alone, the space is not ended with the store.
	must(t, "space.Begin", w.s.Begin())
	must(t, "Begin", w.p.Begin())
	w.put(4, leaf(2))
	must(t, "Commit", w.p.Commit())
	wantError(t, "space.Begin", w.s.Begin(), api.ErrBusy)
	must(t, "Begin", w.p.Begin())
	must(t, "Back", w.p.Back())
	must(t, "space.Commit", w.s.Commit())
	w.wantHolds(holds{2: 0, 3: 0, 4: 0})
}

// TestP11_4BankStays demands that what is taken back stays written: the devices are not taken back with the store.
func TestP11_4BankStays(t *testing.T) {
	w := made(t, 10)
	w.begin()
	w.put(2, leaf(1))
	w.back()
	if w.b.Done() != 1 || !slices.Equal(w.sector(2), encoded(leaf(1))) {
		t.Errorf("Back writes to the devices")
	}
	w.adopt(2)
	w.wantHolds(holds{2: 1})
}

func TestP11_4Pages(t *testing.T) {
	w := made(t, 30, 26, 22)
	var want []int
	for range 40 {
		want = append(want, w.putAny(leaf(1)))
		slices.Sort(want)
		if got := w.p.Pages(); !slices.Equal(got, want) {
			t.Fatalf("Pages: %v, not %v", got, want)
		}
	}
	for i := 0; len(want) > 0; i = (i + 7) % max(len(want), 1) {
		must(t, "Scrap", w.p.Scrap(want[i]))
		want = slices.Delete(want, i, i+1)
		if got := w.p.Pages(); !slices.Equal(got, want) {
			t.Fatalf("Pages: %v, not %v", got, want)
		}
	}
}

func TestP11_4Holds(t *testing.T) {
	w := planted(t)
	for _, addr := range append([]int{0, 1, 7, 9, 10, 4097, 4103, 8194}, nowhere...) {
		if w.p.Holds(addr) != 0 {
			t.Errorf("Holds(%d): %d", addr, w.p.Holds(addr))
		}
	}
	// Held and named are one sum, whichever came first and goes first.
	w.hold(4098, 4098)
	w.adopt(4098)
	w.wantHolds(holds{2: 1, 3: 2, 4: 1, 5: 0, 6: 0, 4098: 6, 4099: 1, 4100: 0, 4101: 1, 4102: 0})
	must(t, "Scrap", w.p.Scrap(5))
	w.wantHolds(holds{3: 1, 6: 0, 4098: 4, 4100: 0, 4101: 1, 4102: 0})
	w.drop(4098, 4098)
	must(t, "Scrap", w.p.Scrap(4102))
	w.wantHolds(holds{6: 0, 4098: 1, 4100: 0})
	w.drop(4098)
	w.wantHolds(holds{6: 0, 4100: 0})
}
